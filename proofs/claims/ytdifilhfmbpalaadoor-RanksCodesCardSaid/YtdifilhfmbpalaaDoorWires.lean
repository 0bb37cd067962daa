/- WireApp, Wire, WireRef, WireRef2: in one text. -/
import Derived.Test.YtdifilhfmbpalaaDoorWords
import Derived.Shelf.Strconv.Itoa0
namespace Go.Proofs.YtdifilhfmbpalaaDoor
open Go.RowKit
set_option linter.unusedVariables false
set_option linter.unusedSimpArgs false
open Go.RowKit Go.Shelf
theorem mod_bd (y : Int) : 0 ≤ y % 256 ∧ y % 256 ≤ 255 := by omega
theorem byte_at (x d : Nat) : (x : Int) / 2 ^ (8 * d) % 256 = ((x / 256 ^ d % 256 : Nat) : Int) := by
  have e : ((2 : Int) ^ (8 * d)) = ((256 ^ d : Nat) : Int) := by
    rw [Int.pow_mul, Int.natCast_pow]
    rfl
  rw [e]
  generalize 256 ^ d = p
  rw [Int.natCast_emod, Int.natCast_ediv]
  rfl
theorem or_byte (x c : Int) (x0 : 0 ≤ x) (x1 : x < 72057594037927936) (c0 : 0 ≤ c) (c1 : c ≤ 255) : bits .or .u64 (IntKind.u64.wrap (x * 256)) c = x * 256 + c := by
  obtain ⟨n, rfl⟩ : ∃ n : Nat, x = (n : Int) := ⟨x.toNat, by omega⟩
  obtain ⟨m, rfl⟩ : ∃ m : Nat, c = (m : Int) := ⟨c.toNat, by omega⟩
  have e : IntKind.u64.wrap ((n : Int) * 256) = ((n * 256 : Nat) : Int) := by rw [IntKind.wrap_u64]; omega
  rw [e, bits_or_u64_nat (n * 256) m (by omega) (by omega)]
  have : n * 256 ||| m = n * 256 + m := by
    have h := Nat.shiftLeft_add_eq_or_of_lt (b := m) (i := 8) (by omega) n
    rw [Nat.shiftLeft_eq] at h
    exact h.symm
  rw [this]
  omega
def Tryd.layLen_ren : Go.Shelf.Ren := ⟨fun | 129 => 100 | n => n, fun | 53 => 104 | 3 => 3 | 4 => 4 | 46 => 34 | 5 => 5 | 9 => 9 | n => n, fun | n => n⟩
theorem Tryd.layLen : Go.Proofs.Lays.n129 Tryd.prog Tryd.layLen_ren := {
  mixed := by kernel_rfl
  f129 := Tryd.func100.trans (congrArg some (by kernel_rfl))
  t53 := Tryd.underlying104
  a53 := Tryd.isAgg104
  z53 := Tryd.sizeOf104
  v53 := Tryd.zeroValue104
  t3 := Tryd.underlying3
  a3 := Tryd.isAgg3
  z3 := Tryd.sizeOf3
  v3 := Tryd.zeroValue3
  t4 := Tryd.underlying4
  a4 := Tryd.isAgg4
  z4 := Tryd.sizeOf4
  v4 := Tryd.zeroValue4
  t46 := Tryd.underlying34
  a46 := Tryd.isAgg34
  z46 := Tryd.sizeOf34
  v46 := Tryd.zeroValue34
  t5 := Tryd.underlying5
  a5 := Tryd.isAgg5
  z5 := Tryd.sizeOf5
  v5 := Tryd.zeroValue5
  t9 := Tryd.underlying9
  a9 := Tryd.isAgg9
  z9 := Tryd.sizeOf9
  v9 := Tryd.zeroValue9 }
set_option maxRecDepth 100000 in
set_option maxHeartbeats 1000000 in
theorem appendBytes_any (B : Nat) (L : List Int) (x k : Nat) (v : Value) (w : World) (hx : x < 18446744073709551616) (hk : k ≤ 8) (hB : B ≤ w.heap.size) (hL : L.length ≤ 70368744177664) (h : Own B L v w) :
    Calls Tryd.prog 101 #[v, .int .u64 x, .int .i64 k] w fun e w' => ∃ v', e = .returned v' ∧ Own B (L ++ be x k) v' w' ∧ Below B w w' := by
  go_enter Tryd.func101, Tryd.ntmps101
  go_wp2
  go_loopw [0, 7] (fun v i wr => ∃ (c : Nat) (M : List Int), c ≤ k ∧ i = .int .i64 ((c : Int) - 1) ∧ Own B M v wr ∧ M ++ be x c = L ++ be x k ∧ M.length + c = L.length + k ∧ Below B w wr)
    (fun _ i _ => (intOf i + 1).toNat)
  case atStart => exact ⟨k, L, by omega, rfl, h, rfl, rfl, Below.refl _ _⟩
  case round =>
    obtain ⟨c, M, hc, rfl, hown, he, hl, hb⟩ := hrel
    by_cases hp : 0 < c
    · obtain ⟨d, rfl⟩ : ∃ d, c = d + 1 := ⟨c - 1, by omega⟩
      have hby := byte_at x d
      have hbd := mod_bd ((x : Int) / 2 ^ (8 * d))
      have HE := Lib.hid he
      have HO := Lib.hid hown
      have HB := Lib.hid hb
      have HY := Lib.hid hby
      clear he hb hby h
      go_wp2_with (at_builtin; refine wp_app rfl _ _ _ rfl B M [(x : Int) / 2 ^ (8 * d) % 256] _ _ rfl rfl (hown.alloc _) ?c1 ?c2 ?c3 ?_)
      case c1 => exact (Own.one hbd wr).rd.src
      case c2 => have := HB.out.size; simp <;> omega
      case c3 => simp <;> omega
      · intro v' w1 hown1 hb1
        have HB2 := Lib.hid ((HB.out.alloc (Nat.le_trans hB HB.out.size) _).trans hb1)
        have HO2 := Lib.hid hown1
        clear hown1 hb1 hown
        go_wp2
        go_roundw
        case rel => exact ⟨d, _, by omega, rfl, HO2.out, by rw [← HE.out, be, ← HY.out]; simp, by simp <;> omega, HB2.out⟩
        case measure => simp [intOf] <;> omega
    · obtain rfl : c = 0 := by omega
      have HE := Lib.hid he
      have HO := Lib.hid hown
      have HB := Lib.hid hb
      clear he hb hown h
      go_wp2
      go_ret
      refine ⟨_, rfl, ?_, HB.out⟩
      have e := HE.out
      rw [be, List.append_nil] at e
      rw [← e]
      exact HO.out
theorem lenW64_any (x : Nat) (w : World) (hx : x < 18446744073709551616) : Calls Tryd.prog 100 #[.int .u64 x] w fun e w' => e = .returned (.int .i64 (Lib.bitLen x : Nat)) ∧ w = w' := by
  refine (Any.bits_Len64 Tryd.layLen x w (by omega) (by omega)).mono ?_
  rintro e w' ⟨rfl, rfl⟩
  exact ⟨rfl, rfl⟩
set_option maxRecDepth 100000 in
set_option maxHeartbeats 1000000 in
theorem appendUint_any (B : Nat) (L : List Int) (x : Nat) (v : Value) (w : World) (hx : x < 18446744073709551616) (hB : B ≤ w.heap.size) (hL : L.length ≤ 35184372088832) (h : Own B L v w) :
    Calls Tryd.prog 79 #[v, .int .u64 x] w fun e w' => ∃ v', e = .returned v' ∧ Own B (L ++ uintB x) v' w' ∧ Below B w w' := by
  by_cases hs : x < 248
  · have e : uintB x = [(x : Int)] := by unfold uintB; rw [if_pos hs]
    rw [e]
    clear e
    have hm : (x : Int) % 256 = x := by omega
    go_enter Tryd.func79, Tryd.ntmps79
    go_wp2_with (at_builtin; refine wp_app rfl _ _ _ rfl B L [(x : Int)] _ _ rfl rfl (h.alloc _) ?c1 ?c2 ?c3 ?_)
    case c1 => exact (Own.one (by omega) w).rd.src
    case c2 => simp <;> omega
    case c3 => simp <;> omega
    · intro v' w1 hown1 hb1
      have HB := Lib.hid (((Below.refl B w).alloc hB _).trans hb1)
      have HO := Lib.hid hown1
      clear hown1 hb1 h
      go_wp2
      go_ret
      exact ⟨_, rfl, HO.out, HB.out⟩
  · have e : uintB x = ((247 + nb x : Nat) : Int) :: be x (nb x) := by unfold uintB; rw [if_neg hs]
    obtain ⟨n1, n2, _, _⟩ := nb_bd x (by omega) hx
    have hl := lenW64_any x
    have hnb : nb x = (Lib.bitLen x + 7) / 8 := rfl
    have hbl : Lib.bitLen x ≤ 64 := Lib.bitLenAux_le 64 x 64 hx
    have ha := fun (M : List Int) (v : Value) (w : World) => appendBytes_any B M x (nb x) v w hx n2
    rw [e]
    clear e
    have e2 : L ++ ((247 + nb x : Nat) : Int) :: be x (nb x) = (L ++ [((247 + nb x : Nat) : Int)]) ++ be x (nb x) := by simp
    rw [e2]
    clear e2
    generalize hbe : be x (nb x) = BE at *
    generalize nb x = k at *
    generalize Lib.bitLen x = b at *
    obtain ⟨c, hcd⟩ : ∃ c : Int, c = ((247 + k : Nat) : Int) := ⟨_, rfl⟩
    rw [← hcd]
    have hk8 : (((b : Int) + 7) / 8) = (k : Int) := by omega
    have hkc : 248 + (k : Int) - 1 = c := by omega
    have hkm : c % 256 = c := by omega
    have HC := Lib.hid hcd
    have HA := Lib.hid ha
    clear hnb hcd ha hbe
    go_enter Tryd.func79, Tryd.ntmps79
    go_wp2_with (first
      | (go_at_call 100; refine (hl _ hx).mono ?_; rintro e w' ⟨rfl, rfl⟩)
      | (at_builtin; refine wp_app rfl _ _ _ rfl B L [c] _ _ rfl rfl (h.alloc _) ?c1 ?c2 ?c3 ?_))
    case c1 => exact (Own.one (by have := HC.out; omega) w).rd.src
    case c2 => simp <;> omega
    case c3 => simp <;> omega
    · intro v' w1 hown1 hb1
      have HB := Lib.hid (((Below.refl B w).alloc hB _).trans hb1)
      have hs1 := HB.out.size
      have hf := HA.out _ v' w1 (by omega) (by simp <;> omega) hown1
      clear hown1 hb1 h
      go_wp2_with (go_at_call 101; refine hf.mono ?_; rintro e w2 ⟨v2, rfl, ho2, hb2⟩)
      go_ret
      exact ⟨_, rfl, ho2, HB.out.trans hb2⟩
set_option maxRecDepth 100000 in
set_option maxHeartbeats 1000000 in
/-- The number that at most eight bytes are. -/
theorem wordOf_any (L : List Int) (v : Value) (w : World) (h : Rd L v w) (hl : L.length ≤ 8) :
    Calls Tryd.prog 102 #[v] w fun e w' => e = .returned (.int .u64 (val L)) ∧ w = w' := by
  obtain ⟨hy, a, cap, rfl, h1, h2, h3⟩ := h
  have hl63 : L.length ≤ 9223372036854775807 := by omega
  go_enter Tryd.func102, Tryd.ntmps102
  go_wp2
  go_loop [3, 5, 8] (fun x c i => ∃ k : Nat, k ≤ L.length ∧ i = .int .i64 (k : Int) ∧ x = .int .u64 (val (L.take k))) (fun _ _ i => L.length - (intOf i).toNat)
  case atStart => exact ⟨0, by omega, rfl, rfl⟩
  case round =>
    obtain ⟨k, hk, rfl, rfl⟩ := hrel
    by_cases hlt : k < L.length
    · obtain ⟨b, off, rfl, hb, hcell⟩ := h3 (by omega)
      have hc := hcell k hlt
      have hst : val (L.take (k + 1)) = bits .or .u64 (IntKind.u64.wrap (val (L.take k) * 256)) (IntKind.u64.wrap (L.getD k 0)) := by
        rw [take_snoc L k hlt, val_snoc]
        have hv := val_bd (L.take k) (hy.take k)
        have hd := hy.at_ k
        have hlen : (L.take k).length = k := by simp <;> omega
        rw [hlen] at hv
        have hp : 256 ^ k ≤ 256 ^ 7 := Nat.pow_le_pow_right (by decide) (by omega)
        have h7 : (256 : Nat) ^ 7 = 72057594037927936 := by decide
        have hw : IntKind.u64.wrap (L.getD k 0) = L.getD k 0 := by rw [IntKind.wrap_u64]; omega
        rw [hw]
        exact (or_byte _ _ hv.1 (by omega) hd.1 hd.2).symm
      have HS := Lib.hid hst
      clear hst h3 hcell
      generalize L.getD k 0 = t at *
      generalize val (L.take k) = x at *
      go_wp2
      go_round
      case rel => exact ⟨k + 1, by omega, by go_num, by rw [HS.out]⟩
      case measure => simp [intOf] <;> omega
    · obtain rfl : k = L.length := by omega
      clear h3
      go_wp2
      go_ret
      exact ⟨by simp, rfl⟩
def encE (n : Int) : Int := if 0 ≤ n ∧ n ≤ 4611686018427387904 then 0 else 5
def encB (n : Int) : List Int := if 0 ≤ n ∧ n ≤ 4611686018427387904 then uintB n.toNat else []
theorem encUint_any (n : Int) (w : World) (n0 : -9223372036854775808 ≤ n) (n1 : n ≤ 9223372036854775807) :
    Calls Tryd.prog 78 #[.int .i64 n] w fun e w' => ∃ v, e = .returned (.tuple #[v, .int .i64 (encE n)]) ∧ Own w.heap.size (encB n) v w' ∧ Below w.heap.size w w' := by
  by_cases hr : 0 ≤ n ∧ n ≤ 4611686018427387904
  · unfold encE encB
    rw [if_pos hr, if_pos hr]
    obtain ⟨m, rfl⟩ : ∃ m : Nat, n = (m : Int) := ⟨n.toNat, by omega⟩
    rw [Int.toNat_natCast]
    have hf := fun w : World => appendUint_any w.heap.size [] m (.slice none 0 0) w (by omega) (Nat.le_refl _) (by simp) (Own.empty _ _)
    rw [List.nil_append] at hf
    generalize uintB m = R at *
    go_enter Tryd.func78, Tryd.ntmps78
    go_wp2_with (go_at_call 79; refine (hf _).mono ?_; rintro e w2 ⟨v2, rfl, ho2, hb2⟩)
    go_ret2
    exact ⟨_, rfl, ho2, hb2⟩
  · unfold encE encB
    rw [if_neg hr, if_neg hr]
    by_cases h0 : n < 0
    all_goals
      have h1 : ¬ (0 ≤ n) ∨ 4611686018427387904 < n := by omega
      go_enter Tryd.func78, Tryd.ntmps78
      go_wp2
      go_ret2
      exact ⟨_, rfl, Own.empty _ _, Below.refl _ _⟩
/-- A string's encoding. -/
def textB (L : List Int) : List Int := if L.length ≤ 65536 then uintB L.length ++ L else []
def textE (L : List Int) : Int := if L.length ≤ 65536 then 0 else 11
theorem uintB_len (x : Nat) (h : x < 18446744073709551616) : 1 ≤ (uintB x).length ∧ (uintB x).length ≤ 9 := by
  unfold uintB
  split
  · simp
  · have := nb_bd x (by omega) h
    simp [be_len]; omega
theorem encText_any (s : ByteArray) (w : World) (hs : s.size ≤ maxLen) :
    Calls Tryd.prog 58 #[.string s] w fun e w' => ∃ v, e = .returned (.tuple #[v, .int .i64 (textE (byt s))]) ∧ Own w.heap.size (textB (byt s)) v w' ∧ Below w.heap.size w w' := by
  unfold maxLen at hs
  by_cases hr : s.size ≤ 65536
  · unfold textE textB
    rw [byt_len, if_pos hr, if_pos hr]
    have hf := fun w : World => appendUint_any w.heap.size [] s.size (.slice none 0 0) w (by omega) (Nat.le_refl _) (by simp) (Own.empty _ _)
    rw [List.nil_append] at hf
    have hl := (uintB_len s.size (by omega)).2
    generalize uintB s.size = R at *
    go_enter Tryd.func58, Tryd.ntmps58
    go_wp2_with (first
      | (go_at_call 79; refine (hf _).mono ?_; rintro e w2 ⟨v2, rfl, ho2, hb2⟩)
      | (at_builtin; refine wp_app rfl _ _ _ rfl w.heap.size R (byt s) _ _ rfl rfl ho2 (byt_src s _) hb2.size ?c3 ?_))
    case c3 => rw [byt_len]; omega
    · intro v' w1 hown1 hb1
      have HO := Lib.hid hown1
      have HB := Lib.hid (hb2.trans hb1)
      clear hown1 hb1 ho2 hb2 hf
      go_wp2
      go_ret2
      exact ⟨_, rfl, HO.out, HB.out⟩
  · unfold textE textB
    rw [byt_len, if_neg hr, if_neg hr]
    go_enter Tryd.func58, Tryd.ntmps58
    go_wp2
    go_ret2
    exact ⟨_, rfl, Own.empty _ _, Below.refl _ _⟩
set_option maxRecDepth 100000 in
set_option maxHeartbeats 2000000 in
theorem decUint_any (L : List Int) (v : Value) (w : World) (h : Rd L v w) :
    Calls Tryd.prog 80 #[v] w fun e w' => e = .returned (.tuple #[.int .i64 (decU L).1, .int .i64 (decU L).2.1, .int .i64 (decU L).2.2]) ∧ w = w' := by
  have h0 := h
  obtain ⟨hy, a, cap, rfl, h1, h2, h3⟩ := h
  unfold maxLen at h2
  unfold decU
  by_cases hl : L.length = 0
  · rw [if_pos hl, hl]
    clear h3 h0
    go_enter Tryd.func80, Tryd.ntmps80
    go_wp2
    go_ret3
    exact ⟨rfl, rfl⟩
  · rw [if_neg hl]
    obtain ⟨b, off, rfl, hb, hcell⟩ := h3 (by omega)
    have c0 := hcell 0 (by omega)
    rw [Nat.add_zero] at c0
    have hcd := hy.at_ 0
    have HR := Lib.hid h0
    have HC := Lib.hid hcell
    clear h0 hcell h3
    by_cases hs : L.getD 0 0 < 248
    · rw [if_pos hs]
      generalize L.getD 0 0 = c at *
      go_enter Tryd.func80, Tryd.ntmps80
      go_wp2
      go_ret3
      exact ⟨rfl, rfl⟩
    · rw [if_neg hs]
      obtain ⟨k, hk⟩ : ∃ k : Nat, L.getD 0 0 = 246 + (k : Int) := ⟨(L.getD 0 0 - 246).toNat, by omega⟩
      have hk2 : L.getD 0 0 - 246 = (k : Int) := by omega
      rw [hk2, Int.toNat_natCast]
      have hu : 2 + (246 + (k : Int) - 248) = k := by omega
      rw [hk] at c0 hs hcd
      clear hk hk2
      by_cases hcut : (L.length : Int) < (k : Int)
      · rw [if_pos hcut]
        go_enter Tryd.func80, Tryd.ntmps80
        go_wp2
        go_ret3
        exact ⟨rfl, rfl⟩
      · rw [if_neg hcut]
        have c1 := HC.out 1 (by omega)
        have hw := wordOf_any _ _ w (HR.out.cut 1 k (by omega) (by omega) (some ⟨b, off + 1, none⟩) (fun _ => rfl) (m := k - 1) (c := cap - 1) rfl rfl) (by simp; omega)
        have hvb := val_bd ((L.take k).drop 1) ((hy.take k).drop 1)
        have hlen : ((L.take k).drop 1).length = k - 1 := by simp; omega
        rw [hlen] at hvb
        have hp : 256 ^ (k - 1) ≤ 256 ^ 8 := Nat.pow_le_pow_right (by decide) (by omega)
        have h8 : (256 : Nat) ^ 8 = 18446744073709551616 := by decide
        have hx0 : 0 ≤ val ((L.take k).drop 1) := hvb.1
        have hx1 : val ((L.take k).drop 1) < 18446744073709551616 := by omega
        have hcd1 := hy.at_ 1
        clear hvb hlen hp h8
        generalize val ((L.take k).drop 1) = x at *
        generalize L.getD 1 0 = t at *
        by_cases ht : t = 0
        · rw [if_pos (Or.inl ht)]
          subst ht
          go_enter Tryd.func80, Tryd.ntmps80
          go_wp2_with (go_at_call 102; refine hw.mono ?_; rintro e w' ⟨rfl, rfl⟩)
          go_ret3
          exact ⟨rfl, rfl⟩
        · have ht2 : (t == 0) = false := by simp [ht]
          by_cases hx2 : x < 248
          · rw [if_pos (Or.inr (Or.inl hx2))]
            go_enter Tryd.func80, Tryd.ntmps80
            go_wp2_with (go_at_call 102; refine hw.mono ?_; rintro e w' ⟨rfl, rfl⟩)
            go_ret3
            exact ⟨rfl, rfl⟩
          · by_cases hx3 : 4611686018427387904 < x
            · rw [if_pos (Or.inr (Or.inr hx3))]
              go_enter Tryd.func80, Tryd.ntmps80
              go_wp2_with (go_at_call 102; refine hw.mono ?_; rintro e w' ⟨rfl, rfl⟩)
              go_ret3
              exact ⟨rfl, rfl⟩
            · rw [if_neg (by omega)]
              go_enter Tryd.func80, Tryd.ntmps80
              go_wp2_with (go_at_call 102; refine hw.mono ?_; rintro e w' ⟨rfl, rfl⟩)
              go_ret3
              exact ⟨rfl, rfl⟩
/-- What is read as a word. -/
def decW (L : List Int) : Int × Int × Int := if L.length < 8 then (0, 0, 3) else (val (L.take 8), 8, 0)
/-- What is read as a string: its bytes, the bytes that it takes, the error. -/
def decT (L : List Int) : List Int × Int × Int :=
  if (decU L).2.2 ≠ 0 then ([], 0, (decU L).2.2)
  else if 65536 < (decU L).1 then ([], 0, 2)
  else if (L.length : Int) - (decU L).2.1 < (decU L).1 then ([], 0, 3)
  else ((L.take ((decU L).2.1 + (decU L).1).toNat).drop (decU L).2.1.toNat, (decU L).2.1 + (decU L).1, 0)
/-- Bounds on what is read as a number. -/
theorem decU_bd {L : List Int} (hy : Byt L) : 0 ≤ (decU L).1 ∧ (decU L).1 ≤ 4611686018427387904 ∧ 0 ≤ (decU L).2.1 ∧ (decU L).2.1 ≤ L.length ∧ (decU L).2.1 ≤ 9 ∧ 0 ≤ (decU L).2.2 ∧ (decU L).2.2 ≤ 3 ∧ ((decU L).2.2 = 0 → 1 ≤ (decU L).2.1) := by
  have hc := hy.at_ 0
  unfold decU
  split
  · dsimp only; omega
  · split
    · dsimp only; omega
    · split
      · dsimp only; omega
      · split
        · dsimp only; omega
        · have := (val_bd ((L.take (L.getD 0 0 - 246).toNat).drop 1) ((hy.take _).drop 1)).1
          dsimp only
          omega
set_option maxRecDepth 100000 in
set_option maxHeartbeats 2000000 in
theorem decText_any (L : List Int) (v : Value) (w : World) (h : Rd L v w) :
    Calls Tryd.prog 103 #[v] w fun e w' => e = .returned (.tuple #[.string (strOfNums (decT L).1), .int .i64 (decT L).2.1, .int .i64 (decT L).2.2]) ∧ w = w' := by
  have hd := decUint_any L v w h
  obtain ⟨b0, b1, b2, b3, b4, b5, b6, b7⟩ := decU_bd h.1
  have h0 := h
  obtain ⟨hy, a, cap, rfl, h1, h2, h3⟩ := h
  unfold maxLen at h2
  unfold decT
  generalize (decU L).1 = n at *
  generalize (decU L).2.1 = k at *
  generalize (decU L).2.2 = e at *
  have HR := Lib.hid h0
  have HC := Lib.hid h3
  clear h0 h3
  by_cases he : e = 0
  · have e0 : (e != 0) = false := by simp [he]
    rw [if_neg (by omega)]
    subst he
    by_cases hn : 65536 < n
    · rw [if_pos hn]
      go_enter Tryd.func103, Tryd.ntmps103
      go_wp2_with (go_at_call 80; refine hd.mono ?_; rintro e w' ⟨rfl, rfl⟩)
      go_ret3
      exact ⟨rfl, rfl⟩
    · rw [if_neg hn]
      by_cases hc : (L.length : Int) - k < n
      · rw [if_pos hc]
        go_enter Tryd.func103, Tryd.ntmps103
        go_wp2_with (go_at_call 80; refine hd.mono ?_; rintro e w' ⟨rfl, rfl⟩)
        go_ret3
        exact ⟨rfl, rfl⟩
      · rw [if_neg hc]
        obtain ⟨N, rfl⟩ : ∃ N : Nat, n = (N : Int) := ⟨n.toNat, by omega⟩
        obtain ⟨K, rfl⟩ : ∃ K : Nat, k = (K : Int) := ⟨k.toNat, by omega⟩
        have hb7 := b7 rfl
        obtain ⟨b, off, rfl, hb, hcell⟩ := HC.out (by omega)
        have hcv := fun (a' : Option Addr) (ha : K < cap → a' = some ⟨b, off + K, none⟩) => (HR.out.cut K (K + N) (by omega) (by omega) a' ha (m := N) (c := cap - K) (by omega) rfl).conv
        have e1 : ((K : Int) + (N : Int)).toNat = K + N := by omega
        rw [e1, Int.toNat_natCast]
        generalize (L.take (K + N)).drop K = D at *
        clear hcell b7
        by_cases hcK : cap = K
        · subst hcK
          obtain rfl : N = 0 := by omega
          have hcv := hcv (some ⟨b, off, none⟩) (fun h => by omega)
          rw [Nat.sub_self] at hcv
          go_enter Tryd.func103, Tryd.ntmps103
          go_wp2_with (go_at_call 80; refine hd.mono ?_; rintro e w' ⟨rfl, rfl⟩)
          go_ret3
          exact ⟨rfl, rfl⟩
        · have hcv := hcv (some ⟨b, off + K, none⟩) (fun h => rfl)
          go_enter Tryd.func103, Tryd.ntmps103
          go_wp2_with (go_at_call 80; refine hd.mono ?_; rintro e w' ⟨rfl, rfl⟩)
          go_ret3
          exact ⟨rfl, rfl⟩
  · have e0 : (e != 0) = true := by simp [he]
    rw [if_pos he]
    go_enter Tryd.func103, Tryd.ntmps103
    go_wp2_with (go_at_call 80; refine hd.mono ?_; rintro e w' ⟨rfl, rfl⟩)
    go_ret3
    exact ⟨rfl, rfl⟩
theorem div_up (n j : Nat) : n / 256 ^ j / 256 = n / 256 ^ (j + 1) := by rw [Nat.div_div_eq_div_mul, Nat.pow_succ]
set_option maxRecDepth 100000 in
set_option maxHeartbeats 2000000 in
theorem ruint_any (n : Nat) (w : World) (hn : n < 9223372036854775808) :
    Calls Tryd.prog 59 #[.int .i64 n] w fun e w' => ∃ v, e = .returned v ∧ Own w.heap.size (uintB n) v w' ∧ Below w.heap.size w w' := by
  by_cases hs : n < 248
  · have e : uintB n = [(n : Int)] := by unfold uintB; rw [if_pos hs]
    rw [e]
    clear e
    have hm : (n : Int) % 256 = n := by omega
    go_enter Tryd.func59, Tryd.ntmps59
    go_wp2
    go_ret
    exact ⟨_, rfl, Own.one (by omega) w, (Below.refl _ w).alloc (Nat.le_refl _) _⟩
  · go_enter Tryd.func59, Tryd.ntmps59
    go_wp2
    go_loopw [0, 3] (fun m b wr => ∃ j : Nat, j ≤ 8 ∧ m = .int .i64 ((n / 256 ^ j : Nat) : Int) ∧ Own w.heap.size (be n j) b wr ∧ (j = 0 ∨ 256 ^ (j - 1) ≤ n) ∧ Below w.heap.size w wr)
      (fun m _ _ => (intOf m).toNat)
    case atStart => exact ⟨0, by omega, by simp, Own.empty _ _, Or.inl rfl, Below.refl _ _⟩
    case round =>
      obtain ⟨j, hj, rfl, hown, hlow, hb⟩ := hrel
      have hd := div_up n j
      have hle := Nat.div_le_self n (256 ^ j)
      by_cases hp : 0 < n / 256 ^ j
      · have hpow : 256 ^ j ≤ n := by
          rcases Nat.lt_or_ge n (256 ^ j) with h | h
          · rw [Nat.div_eq_of_lt h] at hp; omega
          · exact h
        have hj7 : j ≤ 7 := by
          rcases Nat.lt_or_ge 7 j with h | h
          · exfalso
            have : 256 ^ 8 ≤ 256 ^ j := Nat.pow_le_pow_right (by decide) (by omega)
            have h8 : (256 : Nat) ^ 8 = 18446744073709551616 := by decide
            omega
          · exact h
        have hbe : be n (j + 1) = [((n / 256 ^ j % 256 : Nat) : Int)] ++ be n j := rfl
        have hln := be_len n j
        have hpow' : 256 ^ (j + 1 - 1) ≤ n := hpow
        have H1 := Lib.hid hbe
        have H2 := Lib.hid hln
        have H3 := Lib.hid hb
        have H4 := Lib.hid hpow'
        have H5 := Lib.hid hd
        have H6 := Lib.hid hown
        clear hpow hpow' hlow hbe hb hln hd hown
        generalize be n j = BJ at *
        generalize n / 256 ^ j = m at *
        have hm : ((m % 256 : Nat) : Int) = (m : Int) % 256 := by omega
        have hmb := mod_bd (m : Int)
        rw [hm] at H1
        clear hm
        go_wp2_with (at_builtin; refine wp_app rfl _ _ _ rfl wr.heap.size [(m : Int) % 256] BJ _ _ rfl rfl (Own.one hmb wr) ((H6.out.alloc _).rd.src) ?c2 ?c3 ?_)
        case c2 => simp <;> omega
        case c3 => rw [H2.out]; simp <;> omega
        · intro v' w1 hown1 hb1
          have hsz := H3.out.size
          have HB2 := Lib.hid ((H3.out.alloc hsz _).trans (hb1.mono hsz))
          have HO2 := Lib.hid (hown1.mono hsz)
          clear hown1 hb1
          go_wp2
          go_roundw
          case rel => exact ⟨j + 1, by omega, by rw [← H5.out]; go_num, by rw [H1.out]; exact HO2.out, Or.inr H4.out, HB2.out⟩
          case measure => simp [intOf] <;> omega
      · have hz : n / 256 ^ j = 0 := Nat.eq_zero_of_not_pos hp
        have hlt : n < 256 ^ j := by
          rcases Nat.lt_or_ge n (256 ^ j) with h | h
          · exact h
          · have := Nat.div_pos h (Nat.pow_pos (by decide)); omega
        have hj1 : 1 ≤ j := by
          rcases Nat.eq_zero_or_pos j with h | h
          · subst h; simp at hlt; omega
          · exact h
        have hlow' : 256 ^ (j - 1) ≤ n := by rcases hlow with h | h <;> omega
        have hnb := nb_of (by omega) (by omega) hj1 hlow' hlt
        have e : uintB n = [((247 + j : Nat) : Int)] ++ be n j := by unfold uintB; rw [if_neg hs, hnb]; rfl
        rw [hz]
        have hln := be_len n j
        obtain ⟨ba, bc, rfl⟩ := hown.shape
        rw [hln] at hown ⊢
        have H1 := Lib.hid e
        have H2 := Lib.hid hln
        have H3 := Lib.hid hb
        have H6 := Lib.hid hown
        clear e hln hb hown hlow hlow' hnb hlt hz hd hle hp
        generalize be n j = BJ at *
        obtain ⟨c, hcd⟩ : ∃ c : Int, c = ((247 + j : Nat) : Int) := ⟨_, rfl⟩
        rw [← hcd] at H1
        have hkc : 247 + (j : Int) = c := by omega
        have hkm : c % 256 = c := by omega
        have HC := Lib.hid hcd
        clear hcd
        go_wp2_with (at_builtin; refine wp_app rfl _ _ _ rfl wr.heap.size [c] BJ _ _ rfl rfl (Own.one (by have := HC.out; omega) wr) ((H6.out.alloc _).rd.src) ?d2 ?d3 ?_)
        case d2 => simp <;> omega
        case d3 => rw [H2.out]; simp <;> omega
        · intro v' w1 hown1 hb1
          have hsz := H3.out.size
          have HB2 := Lib.hid ((H3.out.alloc hsz _).trans (hb1.mono hsz))
          have HO2 := Lib.hid (hown1.mono hsz)
          clear hown1 hb1
          go_wp2
          go_ret
          exact ⟨_, rfl, by rw [H1.out]; exact HO2.out, HB2.out⟩
theorem rtext_any (s : ByteArray) (w : World) (hs : s.size ≤ 65536) :
    Calls Tryd.prog 61 #[.string s] w fun e w' => ∃ v, e = .returned v ∧ Own w.heap.size (uintB s.size ++ byt s) v w' ∧ Below w.heap.size w w' := by
  have hf := fun w : World => ruint_any s.size w (by omega)
  have hl := (uintB_len s.size (by omega)).2
  generalize uintB s.size = R at *
  go_enter Tryd.func61, Tryd.ntmps61
  go_wp2_with (first
    | (go_at_call 59; refine (hf _).mono ?_; rintro e w2 ⟨v2, rfl, ho2, hb2⟩)
    | (at_builtin; refine wp_app rfl _ _ _ rfl w.heap.size R (byt s) _ _ rfl rfl ho2 (byt_src s _) hb2.size ?c3 ?_))
  case c3 => rw [byt_len]; omega
  · intro v' w1 hown1 hb1
    have HO := Lib.hid hown1
    have HB := Lib.hid (hb2.trans hb1)
    clear hown1 hb1 ho2 hb2 hf
    go_wp2
    go_ret
    exact ⟨_, rfl, HO.out, HB.out⟩
theorem val_up {L : List Int} (hy : Byt L) (j : Nat) (h : j + 1 < L.length) (hj : j ≤ 7) :
    val ((L.take (j + 2)).drop 1) = bits .or .u64 (IntKind.u64.wrap (val ((L.take (j + 1)).drop 1) * 256)) (IntKind.u64.wrap (L.getD (j + 1) 0)) := by
  have e : (L.take (j + 2)).drop 1 = (L.take (j + 1)).drop 1 ++ [L.getD (j + 1) 0] := by
    rw [take_snoc L (j + 1) h, List.drop_append_of_le_length (by simp; omega)]
  rw [e, val_snoc]
  have hv := val_bd ((L.take (j + 1)).drop 1) ((hy.take _).drop 1)
  have hd := hy.at_ (j + 1)
  have hlen : ((L.take (j + 1)).drop 1).length = j := by simp; omega
  rw [hlen] at hv
  have hp : 256 ^ j ≤ 256 ^ 7 := Nat.pow_le_pow_right (by decide) (by omega)
  have h7 : (256 : Nat) ^ 7 = 72057594037927936 := by decide
  have hw : IntKind.u64.wrap (L.getD (j + 1) 0) = L.getD (j + 1) 0 := by rw [IntKind.wrap_u64]; omega
  rw [hw]
  exact (or_byte _ _ hv.1 (by omega) hd.1 hd.2).symm
set_option maxRecDepth 100000 in
set_option maxHeartbeats 4000000 in
theorem rdecUint_any (L : List Int) (v : Value) (w : World) (h : Rd L v w) :
    Calls Tryd.prog 83 #[v] w fun e w' => e = .returned (.tuple #[.int .i64 (decU L).1, .int .i64 (decU L).2.1, .int .i64 (decU L).2.2]) ∧ w = w' := by
  obtain ⟨hy, a, cap, rfl, h1, h2, h3⟩ := h
  unfold maxLen at h2
  unfold decU
  by_cases hl : L.length = 0
  · rw [if_pos hl, hl]
    clear h3
    go_enter Tryd.func83, Tryd.ntmps83
    go_wp2
    go_ret3
    exact ⟨rfl, rfl⟩
  · rw [if_neg hl]
    obtain ⟨b, off, rfl, hb, hcell⟩ := h3 (by omega)
    have c0 := hcell 0 (by omega)
    rw [Nat.add_zero] at c0
    have hcd := hy.at_ 0
    have HC := Lib.hid hcell
    have HY := Lib.hid hy
    clear hcell h3 hy
    by_cases hs : L.getD 0 0 < 248
    · rw [if_pos hs]
      generalize L.getD 0 0 = c at *
      go_enter Tryd.func83, Tryd.ntmps83
      go_wp2
      go_ret3
      exact ⟨rfl, rfl⟩
    · rw [if_neg hs]
      obtain ⟨k, hk⟩ : ∃ k : Nat, L.getD 0 0 = 247 + (k : Int) := ⟨(L.getD 0 0 - 247).toNat, by omega⟩
      have hk2 : L.getD 0 0 - 246 = ((k + 1 : Nat) : Int) := by omega
      rw [hk2, Int.toNat_natCast]
      have hu : 247 + (k : Int) - 247 = k := by omega
      rw [hk] at c0 hs hcd
      clear hk hk2
      by_cases hcut : (L.length : Int) < ((k + 1 : Nat) : Int)
      · rw [if_pos hcut]
        go_enter Tryd.func83, Tryd.ntmps83
        go_wp2
        go_ret3
        exact ⟨rfl, rfl⟩
      · rw [if_neg hcut]
        obtain ⟨r, hr⟩ : ∃ r : Int × Int × Int, r = (if L.getD 1 0 = 0 ∨ val ((L.take (k + 1)).drop 1) < 248 ∨ 4611686018427387904 < val ((L.take (k + 1)).drop 1) then (0, 0, 2) else (val ((L.take (k + 1)).drop 1), ((k + 1 : Nat) : Int), 0)) := ⟨_, rfl⟩
        rw [← hr]
        have HR := Lib.hid hr
        clear hr
        go_enter Tryd.func83, Tryd.ntmps83
        go_wp2
        go_loop [6, 7] (fun n i => ∃ j : Nat, j ≤ k ∧ i = .int .i64 ((j : Int) + 1) ∧ n = .int .u64 (val ((L.take (j + 1)).drop 1))) (fun _ i => k + 1 - (intOf i).toNat)
        case atStart =>
          refine ⟨0, by omega, rfl, ?_⟩
          have : (L.take (0 + 1)).drop 1 = [] := by simp
          rw [this]; rfl
        case round =>
          obtain ⟨j, hj, rfl, rfl⟩ := hrel
          by_cases hlt : j < k
          · have hc := HC.out (j + 1) (by omega)
            have hst := val_up HY.out j (by omega) (by omega)
            have hc2 : w.cell? ⟨b, off + (j + 1), none⟩ = some (.int .u8 (L.getD (j + 1) 0)) := hc
            have HS := Lib.hid hst
            clear hst hc
            generalize L.getD (j + 1) 0 = t at *
            generalize val ((L.take (j + 1)).drop 1) = x at *
            go_wp2
            go_round
            case rel => exact ⟨j + 1, by omega, by go_num, by rw [HS.out]⟩
            case measure => simp [intOf] <;> omega
          · obtain rfl : j = k := by omega
            have c1 := HC.out 1 (by omega)
            have hvb := val_bd ((L.take (j + 1)).drop 1) ((HY.out.take _).drop 1)
            have hlen : ((L.take (j + 1)).drop 1).length = j := by simp; omega
            rw [hlen] at hvb
            have hp : 256 ^ j ≤ 256 ^ 8 := Nat.pow_le_pow_right (by decide) (by omega)
            have h8 : (256 : Nat) ^ 8 = 18446744073709551616 := by decide
            have hx0 : 0 ≤ val ((L.take (j + 1)).drop 1) := hvb.1
            have hx1 : val ((L.take (j + 1)).drop 1) < 18446744073709551616 := by omega
            have hcd1 := HY.out.at_ 1
            clear hvb hlen hp h8
            generalize val ((L.take (j + 1)).drop 1) = x at *
            generalize L.getD 1 0 = t at *
            by_cases ht : t = 0
            · subst ht
              go_wp2
              go_ret3
              rw [HR.out, if_pos (Or.inl trivial)]
              exact ⟨rfl, rfl⟩
            · have ht2 : (t == 0) = false := by simp [ht]
              by_cases hx2 : x < 248
              · go_wp2
                go_ret3
                rw [HR.out, if_pos (Or.inr (Or.inl hx2))]
                exact ⟨rfl, rfl⟩
              · by_cases hx3 : 4611686018427387904 < x
                · go_wp2
                  go_ret3
                  rw [HR.out, if_pos (Or.inr (Or.inr hx3))]
                  exact ⟨rfl, rfl⟩
                · go_wp2
                  go_ret3
                  rw [HR.out, if_neg (by omega)]
                  exact ⟨rfl, rfl⟩
theorem val_take {L : List Int} (hy : Byt L) (j : Nat) (h : j < L.length) (hj : j ≤ 7) :
    val (L.take (j + 1)) = bits .or .u64 (IntKind.u64.wrap (val (L.take j) * 256)) (IntKind.u64.wrap (L.getD j 0)) := by
  rw [take_snoc L j h, val_snoc]
  have hv := val_bd (L.take j) (hy.take j)
  have hd := hy.at_ j
  have hlen : (L.take j).length = j := by simp; omega
  rw [hlen] at hv
  have hp : 256 ^ j ≤ 256 ^ 7 := Nat.pow_le_pow_right (by decide) (by omega)
  have h7 : (256 : Nat) ^ 7 = 72057594037927936 := by decide
  have hw : IntKind.u64.wrap (L.getD j 0) = L.getD j 0 := by rw [IntKind.wrap_u64]; omega
  rw [hw]
  exact (or_byte _ _ hv.1 (by omega) hd.1 hd.2).symm
set_option maxRecDepth 100000 in
set_option maxHeartbeats 2000000 in
theorem rdecText_any (L : List Int) (v : Value) (w : World) (h : Rd L v w) :
    Calls Tryd.prog 84 #[v] w fun e w' => e = .returned (.tuple #[.string (strOfNums (decT L).1), .int .i64 (decT L).2.1, .int .i64 (decT L).2.2]) ∧ w = w' := by
  have hd := rdecUint_any L v w h
  obtain ⟨b0, b1, b2, b3, b4, b5, b6, b7⟩ := decU_bd h.1
  have h0 := h
  obtain ⟨hy, a, cap, rfl, h1, h2, h3⟩ := h
  unfold maxLen at h2
  unfold decT
  generalize (decU L).1 = n at *
  generalize (decU L).2.1 = k at *
  generalize (decU L).2.2 = e at *
  have HR := Lib.hid h0
  have HC := Lib.hid h3
  clear h0 h3
  by_cases he : e = 0
  · have e0 : (e != 0) = false := by simp [he]
    rw [if_neg (by omega)]
    subst he
    by_cases hn : 65536 < n
    · rw [if_pos hn]
      go_enter Tryd.func84, Tryd.ntmps84
      go_wp2_with (go_at_call 83; refine hd.mono ?_; rintro e w' ⟨rfl, rfl⟩)
      go_ret3
      exact ⟨rfl, rfl⟩
    · rw [if_neg hn]
      by_cases hc : (L.length : Int) - k < n
      · rw [if_pos hc]
        go_enter Tryd.func84, Tryd.ntmps84
        go_wp2_with (go_at_call 83; refine hd.mono ?_; rintro e w' ⟨rfl, rfl⟩)
        go_ret3
        exact ⟨rfl, rfl⟩
      · rw [if_neg hc]
        obtain ⟨N, rfl⟩ : ∃ N : Nat, n = (N : Int) := ⟨n.toNat, by omega⟩
        obtain ⟨K, rfl⟩ : ∃ K : Nat, k = (K : Int) := ⟨k.toNat, by omega⟩
        have hb7 := b7 rfl
        obtain ⟨b, off, rfl, hb, hcell⟩ := HC.out (by omega)
        have hcv := fun (a' : Option Addr) (ha : K < cap → a' = some ⟨b, off + K, none⟩) => (HR.out.cut K (K + N) (by omega) (by omega) a' ha (m := N) (c := cap - K) (by omega) rfl).conv
        have e1 : ((K : Int) + (N : Int)).toNat = K + N := by omega
        rw [e1, Int.toNat_natCast]
        generalize (L.take (K + N)).drop K = D at *
        clear hcell b7
        by_cases hcK : cap = K
        · subst hcK
          obtain rfl : N = 0 := by omega
          have hcv := hcv (some ⟨b, off, none⟩) (fun h => by omega)
          rw [Nat.sub_self] at hcv
          go_enter Tryd.func84, Tryd.ntmps84
          go_wp2_with (go_at_call 83; refine hd.mono ?_; rintro e w' ⟨rfl, rfl⟩)
          go_ret3
          exact ⟨rfl, rfl⟩
        · have hcv := hcv (some ⟨b, off + K, none⟩) (fun h => rfl)
          go_enter Tryd.func84, Tryd.ntmps84
          go_wp2_with (go_at_call 83; refine hd.mono ?_; rintro e w' ⟨rfl, rfl⟩)
          go_ret3
          exact ⟨rfl, rfl⟩
  · have e0 : (e != 0) = true := by simp [he]
    rw [if_pos he]
    go_enter Tryd.func84, Tryd.ntmps84
    go_wp2_with (go_at_call 83; refine hd.mono ?_; rintro e w' ⟨rfl, rfl⟩)
    go_ret3
    exact ⟨rfl, rfl⟩
end Go.Proofs.YtdifilhfmbpalaaDoor
