/- The contracts of package wire's appendBytes, appendUint and wordOf. -/
import Derived.Test.YtlbbmnjhohfbkaaByteRow
import Derived.Shelf.Strconv.Itoa0
namespace Go.Proofs.Ytlbbmnjhohfbkaa
open Go.RowKit Go.Shelf
set_option linter.unusedVariables false
set_option linter.unusedSimpArgs false
theorem mod_bd (y : Int) : 0 ≤ y % 256 ∧ y % 256 ≤ 255 := by omega
theorem byte_at (x d : Nat) : (x : Int) / 2 ^ (8 * d) % 256 = ((x / 256 ^ d % 256 : Nat) : Int) := by
  have e : ((2 : Int) ^ (8 * d)) = ((256 ^ d : Nat) : Int) := by
    rw [Int.pow_mul, Int.natCast_pow]
    rfl
  rw [e]
  generalize 256 ^ d = p
  rw [Int.natCast_emod, Int.natCast_ediv]
  rfl
theorem or_byte (x c : Int) (x0 : 0 ≤ x) (x1 : x < 72057594037927936) (c0 : 0 ≤ c) (c1 : c ≤ 255) : bits .or .u64 (IntKind.u64.wrap (x * 256)) c = x * 256 + c := by
  obtain ⟨n, rfl⟩ : ∃ n : Nat, x = (n : Int) := ⟨x.toNat, by omega⟩
  obtain ⟨m, rfl⟩ : ∃ m : Nat, c = (m : Int) := ⟨c.toNat, by omega⟩
  have e : IntKind.u64.wrap ((n : Int) * 256) = ((n * 256 : Nat) : Int) := by rw [IntKind.wrap_u64]; omega
  rw [e, bits_or_u64_nat (n * 256) m (by omega) (by omega)]
  have : n * 256 ||| m = n * 256 + m := by
    have h := Nat.shiftLeft_add_eq_or_of_lt (b := m) (i := 8) (by omega) n
    rw [Nat.shiftLeft_eq] at h
    exact h.symm
  rw [this]
  omega
def Try.layLen_ren : Go.Shelf.Ren := ⟨fun | 129 => 78 | n => n, fun | 53 => 22 | 3 => 3 | 4 => 4 | 46 => 39 | 5 => 5 | 9 => 9 | n => n, fun | n => n⟩
theorem Try.layLen : Go.Proofs.Lays.n129 Try.prog Try.layLen_ren := {
  mixed := by kernel_rfl
  f129 := Try.func78.trans (congrArg some (by kernel_rfl))
  t53 := Try.underlying22
  a53 := Try.isAgg22
  z53 := Try.sizeOf22
  v53 := Try.zeroValue22
  t3 := Try.underlying3
  a3 := Try.isAgg3
  z3 := Try.sizeOf3
  v3 := Try.zeroValue3
  t4 := Try.underlying4
  a4 := Try.isAgg4
  z4 := Try.sizeOf4
  v4 := Try.zeroValue4
  t46 := Try.underlying39
  a46 := Try.isAgg39
  z46 := Try.sizeOf39
  v46 := Try.zeroValue39
  t5 := Try.underlying5
  a5 := Try.isAgg5
  z5 := Try.sizeOf5
  v5 := Try.zeroValue5
  t9 := Try.underlying9
  a9 := Try.isAgg9
  z9 := Try.sizeOf9
  v9 := Try.zeroValue9 }
set_option maxRecDepth 100000 in
set_option maxHeartbeats 1000000 in
theorem appendBytes_any (B : Nat) (L : List Int) (x k : Nat) (v : Value) (w : World) (hx : x < 18446744073709551616) (hk : k ≤ 8) (hB : B ≤ w.heap.size) (hL : L.length ≤ 70368744177664) (h : Own B L v w) :
    Calls Try.prog 68 #[v, .int .u64 x, .int .i64 k] w fun e w' => ∃ v', e = .returned v' ∧ Own B (L ++ be x k) v' w' ∧ Below B w w' := by
  go_enter Try.func68, Try.ntmps68
  go_wp2
  go_loopw [0, 7] (fun v i wr => ∃ (c : Nat) (M : List Int), c ≤ k ∧ i = .int .i64 ((c : Int) - 1) ∧ Own B M v wr ∧ M ++ be x c = L ++ be x k ∧ M.length + c = L.length + k ∧ Below B w wr)
    (fun _ i _ => (intOf i + 1).toNat)
  case atStart => exact ⟨k, L, by omega, rfl, h, rfl, rfl, Below.refl _ _⟩
  case round =>
    obtain ⟨c, M, hc, rfl, hown, he, hl, hb⟩ := hrel
    by_cases hp : 0 < c
    · obtain ⟨d, rfl⟩ : ∃ d, c = d + 1 := ⟨c - 1, by omega⟩
      have hby := byte_at x d
      have hbd := mod_bd ((x : Int) / 2 ^ (8 * d))
      have HE := Lib.hid he
      have HO := Lib.hid hown
      have HB := Lib.hid hb
      have HY := Lib.hid hby
      clear he hb hby h
      go_wp2_with (at_builtin; refine wp_app rfl _ _ _ rfl B M [(x : Int) / 2 ^ (8 * d) % 256] _ _ rfl rfl (hown.alloc _) ?c1 ?c2 ?c3 ?_)
      case c1 => exact (Own.one hbd wr).rd.src
      case c2 => have := HB.out.size; simp <;> omega
      case c3 => simp <;> omega
      · intro v' w1 hown1 hb1
        have HB2 := Lib.hid ((HB.out.alloc (Nat.le_trans hB HB.out.size) _).trans hb1)
        have HO2 := Lib.hid hown1
        clear hown1 hb1 hown
        go_wp2
        go_roundw
        case rel => exact ⟨d, _, by omega, rfl, HO2.out, by rw [← HE.out, be, ← HY.out]; simp, by simp <;> omega, HB2.out⟩
        case measure => simp [intOf] <;> omega
    · obtain rfl : c = 0 := by omega
      have HE := Lib.hid he
      have HO := Lib.hid hown
      have HB := Lib.hid hb
      clear he hb hown h
      go_wp2
      go_ret
      refine ⟨_, rfl, ?_, HB.out⟩
      have e := HE.out
      rw [be, List.append_nil] at e
      rw [← e]
      exact HO.out
theorem len64_any (x : Nat) (w : World) (hx : x < 18446744073709551616) : Calls Try.prog 78 #[.int .u64 x] w fun e w' => e = .returned (.int .i64 (Lib.bitLen x : Nat)) ∧ w = w' := by
  refine (Any.bits_Len64 Try.layLen x w (by omega) (by omega)).mono ?_
  rintro e w' ⟨rfl, rfl⟩
  exact ⟨rfl, rfl⟩
set_option maxRecDepth 100000 in
set_option maxHeartbeats 1000000 in
theorem appendUint_any (B : Nat) (L : List Int) (x : Nat) (v : Value) (w : World) (hx : x < 18446744073709551616) (hB : B ≤ w.heap.size) (hL : L.length ≤ 35184372088832) (h : Own B L v w) :
    Calls Try.prog 76 #[v, .int .u64 x] w fun e w' => ∃ v', e = .returned v' ∧ Own B (L ++ uintB x) v' w' ∧ Below B w w' := by
  by_cases hs : x < 248
  · have e : uintB x = [(x : Int)] := by unfold uintB; rw [if_pos hs]
    rw [e]
    clear e
    have hm : (x : Int) % 256 = x := by omega
    go_enter Try.func76, Try.ntmps76
    go_wp2_with (at_builtin; refine wp_app rfl _ _ _ rfl B L [(x : Int)] _ _ rfl rfl (h.alloc _) ?c1 ?c2 ?c3 ?_)
    case c1 => exact (Own.one (by omega) w).rd.src
    case c2 => simp <;> omega
    case c3 => simp <;> omega
    · intro v' w1 hown1 hb1
      have HB := Lib.hid (((Below.refl B w).alloc hB _).trans hb1)
      have HO := Lib.hid hown1
      clear hown1 hb1 h
      go_wp2
      go_ret
      exact ⟨_, rfl, HO.out, HB.out⟩
  · have e : uintB x = ((247 + nb x : Nat) : Int) :: be x (nb x) := by unfold uintB; rw [if_neg hs]
    obtain ⟨n1, n2, _, _⟩ := nb_bd x (by omega) hx
    have hl := len64_any x
    have hnb : nb x = (Lib.bitLen x + 7) / 8 := rfl
    have hbl : Lib.bitLen x ≤ 64 := Lib.bitLenAux_le 64 x 64 hx
    have ha := fun (M : List Int) (v : Value) (w : World) => appendBytes_any B M x (nb x) v w hx n2
    rw [e]
    clear e
    have e2 : L ++ ((247 + nb x : Nat) : Int) :: be x (nb x) = (L ++ [((247 + nb x : Nat) : Int)]) ++ be x (nb x) := by simp
    rw [e2]
    clear e2
    generalize hbe : be x (nb x) = BE at *
    generalize nb x = k at *
    generalize Lib.bitLen x = b at *
    obtain ⟨c, hcd⟩ : ∃ c : Int, c = ((247 + k : Nat) : Int) := ⟨_, rfl⟩
    rw [← hcd]
    have hk8 : (((b : Int) + 7) / 8) = (k : Int) := by omega
    have hkc : 248 + (k : Int) - 1 = c := by omega
    have hkm : c % 256 = c := by omega
    have HC := Lib.hid hcd
    have HA := Lib.hid ha
    clear hnb hcd ha hbe
    go_enter Try.func76, Try.ntmps76
    go_wp2_with (first
      | (go_at_call 78; refine (hl _ hx).mono ?_; rintro e w' ⟨rfl, rfl⟩)
      | (at_builtin; refine wp_app rfl _ _ _ rfl B L [c] _ _ rfl rfl (h.alloc _) ?c1 ?c2 ?c3 ?_))
    case c1 => exact (Own.one (by have := HC.out; omega) w).rd.src
    case c2 => simp <;> omega
    case c3 => simp <;> omega
    · intro v' w1 hown1 hb1
      have HB := Lib.hid (((Below.refl B w).alloc hB _).trans hb1)
      have hs1 := HB.out.size
      have hf := HA.out _ v' w1 (by omega) (by simp <;> omega) hown1
      clear hown1 hb1 h
      go_wp2_with (go_at_call 68; refine hf.mono ?_; rintro e w2 ⟨v2, rfl, ho2, hb2⟩)
      go_ret
      exact ⟨_, rfl, ho2, HB.out.trans hb2⟩
set_option maxRecDepth 100000 in
set_option maxHeartbeats 1000000 in
/-- The number that at most eight bytes are. -/
theorem wordOf_any (L : List Int) (v : Value) (w : World) (h : Rd L v w) (hl : L.length ≤ 8) :
    Calls Try.prog 77 #[v] w fun e w' => e = .returned (.int .u64 (val L)) ∧ w = w' := by
  obtain ⟨hy, a, cap, rfl, h1, h2, h3⟩ := h
  have hl63 : L.length ≤ 9223372036854775807 := by omega
  go_enter Try.func77, Try.ntmps77
  go_wp2
  go_loop [3, 5, 8] (fun x c i => ∃ k : Nat, k ≤ L.length ∧ i = .int .i64 (k : Int) ∧ x = .int .u64 (val (L.take k))) (fun _ _ i => L.length - (intOf i).toNat)
  case atStart => exact ⟨0, by omega, rfl, rfl⟩
  case round =>
    obtain ⟨k, hk, rfl, rfl⟩ := hrel
    by_cases hlt : k < L.length
    · obtain ⟨b, off, rfl, hb, hcell⟩ := h3 (by omega)
      have hc := hcell k hlt
      have hst : val (L.take (k + 1)) = bits .or .u64 (IntKind.u64.wrap (val (L.take k) * 256)) (IntKind.u64.wrap (L.getD k 0)) := by
        rw [take_snoc L k hlt, val_snoc]
        have hv := val_bd (L.take k) (hy.take k)
        have hd := hy.at_ k
        have hlen : (L.take k).length = k := by simp <;> omega
        rw [hlen] at hv
        have hp : 256 ^ k ≤ 256 ^ 7 := Nat.pow_le_pow_right (by decide) (by omega)
        have h7 : (256 : Nat) ^ 7 = 72057594037927936 := by decide
        have hw : IntKind.u64.wrap (L.getD k 0) = L.getD k 0 := by rw [IntKind.wrap_u64]; omega
        rw [hw]
        exact (or_byte _ _ hv.1 (by omega) hd.1 hd.2).symm
      have HS := Lib.hid hst
      clear hst h3 hcell
      generalize L.getD k 0 = t at *
      generalize val (L.take k) = x at *
      go_wp2
      go_round
      case rel => exact ⟨k + 1, by omega, by go_num, by rw [HS.out]⟩
      case measure => simp [intOf] <;> omega
    · obtain rfl : k = L.length := by omega
      clear h3
      go_wp2
      go_ret
      exact ⟨by simp, rfl⟩
end Go.Proofs.Ytlbbmnjhohfbkaa
