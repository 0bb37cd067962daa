/- The walk of the law SaturBits at this translation. -/
import Derived.Test.YtjojgpccmedhpaaDoorSumsW
import Derived.Test.YtjojgpccmedhpaaDoorRefBits
import Derived.Test.YtjojgpccmedhpaaDoorInverseW
namespace Go.Proofs.YtjojgpccmedhpaaDoor
open Go.RowKit
set_option linter.unusedVariables false
set_option linter.unusedSimpArgs false
/-- A slice whose elements are the numbers L. -/
def Reads (ao : Option Addr) (L : List Nat) (w : World) : Prop := ∀ j x : Nat, L[j]? = some x → ∃ g, ao = some ⟨g, 0, none⟩ ∧ g < w.heap.size ∧ w.cell? ⟨g, j, none⟩ = some (.int .i64 (x : Int))
theorem reads_of_made {B : Nat} {L : List Nat} {v : Value} {w : World} (h : Made B L v w) : ∃ ao cap, v = .slice ao L.length cap ∧ Reads ao L w := by
  by_cases hL : L = []
  · subst hL
    rcases h.2 with ⟨hv, _⟩ | ⟨g, cap, cur, hv, _⟩
    · exact ⟨none, 0, by simpa using hv, fun j x hj => by simp at hj⟩
    · exact ⟨some ⟨g, 0, none⟩, cap, by simpa using hv, fun j x hj => by simp at hj⟩
  · obtain ⟨g, cap, hv, _, hg, hc⟩ := made_at h hL
    exact ⟨_, cap, hv, fun j x hj => ⟨g, rfl, hg, hc j x hj⟩⟩
theorem Reads.below {ao : Option Addr} {L : List Nat} {w w' : World} (h : Reads ao L w) (hb : Below w.heap.size w w') : Reads ao L w' := fun j x hj => by
  obtain ⟨g, h1, h2, h3⟩ := h j x hj
  exact ⟨g, h1, Nat.lt_of_lt_of_le h2 hb.size, (hb.cell (p := ⟨g, j, none⟩) h2).trans h3⟩
/-- The sum of the powers of two with the exponents L. -/
def psum (L : List Nat) : Nat := (L.map (2 ^ ·)).sum
theorem psum_snoc (L : List Nat) (x : Nat) : psum (L ++ [x]) = psum L + 2 ^ x := by simp [psum]
theorem mod_succ (r c : Nat) : r % 2 ^ (c + 1) = r % 2 ^ c + 2 ^ c * (if r.testBit c then 1 else 0) := by
  rw [Nat.pow_succ, Nat.mod_mul, Nat.testBit_eq_decide_div_mod_eq]
  by_cases h : r / 2 ^ c % 2 = 1
  · simp [h]
  · have : r / 2 ^ c % 2 = 0 := by omega
    simp [this]
theorem psum_pows (r : Nat) : ∀ c, psum (pows r c) = r % 2 ^ c
  | 0 => by simp [pows_zero, psum, Nat.mod_one]
  | c + 1 => by
    cases h : r.testBit c
    · rw [pows_succ_miss h, psum_pows r c, mod_succ, h]; simp
    · rw [pows_succ_hit h, psum_snoc, psum_pows r c, mod_succ, h]; simp
theorem psum_append (L M : List Nat) : psum (L ++ M) = psum L + psum M := by simp [psum]
theorem psum_take_le (L : List Nat) (k : Nat) : psum (L.take k) ≤ psum L := by
  have e := psum_append (L.take k) (L.drop k)
  rw [List.take_append_drop] at e
  omega
theorem psum_take_succ {L : List Nat} {k x : Nat} (h : L[k]? = some x) : psum (L.take (k + 1)) = psum (L.take k) + 2 ^ x := by
  rw [List.take_add_one, h]
  exact psum_snoc _ _
theorem wrap_pow (s e : Nat) (h : s + 2 ^ e < 9223372036854775808) : wrap64 ((s : Int) + wrap64 ((2 : Int) ^ e)) = ((s + 2 ^ e : Nat) : Int) := by
  have h2 : ((2 : Int) ^ e) = ((2 ^ e : Nat) : Int) := by simp
  rw [h2]
  generalize 2 ^ e = p at *
  unfold wrap64
  omega
set_option maxHeartbeats 1000000 in
theorem saturBits_walk (x n : Int) (wx : (Lit.int .u64 x).wf = true) (wn : (Lit.int .i64 n).wf = true) (W : World) (hg : 2 < W.heap.size) (hT : TabAt 2 Lib.deBruijn64tab W) :
    Calls Tryd.prog 5 #[.int .u64 x, .int .i64 n] W fun e w' => e = .returned (.bool true) ∧ Below W.heap.size W w' := by
  obtain ⟨x0, x1⟩ := wf_bdu wx
  obtain ⟨n0, n1⟩ := wf_bd wn
  obtain ⟨y, rfl⟩ := Int.eq_ofNat_of_zero_le x0
  obtain ⟨r, hr⟩ := Int.eq_ofNat_of_zero_le (nat0_bd n n1).1
  have hr63 : r < 9223372036854775808 := by have := (nat0_bd n n1).2; omega
  obtain ⟨L, hL⟩ : ∃ L, pows r 63 = L := ⟨_, rfl⟩
  have hsum : psum L = r := by rw [← hL, psum_pows]; exact Nat.mod_eq_of_lt hr63
  have hmem : ∀ j x : Nat, L[j]? = some x → x < 63 := fun j x h => by
    have := List.mem_of_getElem? h
    rw [← hL] at this
    exact pows_mem this
  have hlen : L.length ≤ 63 := by rw [← hL]; exact pows_le _ _
  have p1 : Calls Tryd.prog 17 #[.int .i64 n] W fun e w' => ∃ ao cap, e = .returned (.slice ao L.length cap) ∧ Reads ao L w' ∧ Below W.heap.size W w' :=
    (powers_any n r W hr n0 n1 hg hT).mono fun e w' ⟨v, he, hm, hb⟩ => by
      rw [hL] at hm
      obtain ⟨ao, cap, hv, hre⟩ := reads_of_made hm
      exact ⟨ao, cap, by rw [he, hv], hre, hb⟩
  have p2 : ∀ w, Calls Tryd.prog 18 #[.int .i64 n] w fun e w' => ∃ ao cap, e = .returned (.slice ao L.length cap) ∧ Reads ao L w' ∧ Below w.heap.size w w' := fun w =>
    (ref_powers_any n r w hr n1).mono fun e w' ⟨v, he, hm, hb⟩ => by
      rw [hL] at hm
      obtain ⟨ao, cap, hv, hre⟩ := reads_of_made hm
      exact ⟨ao, cap, by rw [he, hv], hre, hb⟩
  have z1 := fun w => lz_any (y : Int) w x0 x1
  simp only [Int.toNat_natCast] at z1
  have z2 := fun w => ref_lz_any y (by omega) w
  generalize (64 - (Lib.bitLen y : Int)) = z at *
  have hk := fun (w : World) (h : Below W.heap.size W w) => known_any w (Nat.lt_of_lt_of_le hg h.size) (tab_below hT hg h)
  have hmax : max n 0 = (r : Int) := hr
  have HS := Lib.hid hsum
  have HM := Lib.hid hmem
  have HR := Lib.hid hmax
  clear hsum hmem hmax hr hL hT wx wn
  generalize hn : L.length = N at *
  have HN := Lib.hid hn
  clear hn
  go_enter Tryd.func5, Tryd.ntmps5
  go_wp2_with (first
    | (go_at_call 17; refine p1.mono ?_; rintro e w1 ⟨ao, cap, rfl, hr1, hb1⟩)
    | (go_at_call 18; refine (p2 _).mono ?_; rintro e w2 ⟨ao2, cap2, rfl, hr2, hb2⟩)
    | (go_at_call 19; refine (z1 _).mono ?_; rintro e w3 ⟨rfl, rfl⟩)
    | (go_at_call 20; refine (z2 _).mono ?_; rintro e w3 ⟨rfl, rfl⟩))
  have hb12 : Below W.heap.size W w2 := hb1.trans (hb2.mono hb1.size)
  have hr1' := hr1.below hb2
  clear hr1 hb1 hb2
  go_loopw [7, 8] (fun s i wr => ∃ k : Nat, k ≤ N ∧ i = .int .i64 k ∧ s = .int .i64 (psum (L.take k) : Nat) ∧ Below w2.heap.size w2 wr) (fun _ i _ => N - (intOf i).toNat)
  case atStart => exact ⟨0, by omega, rfl, rfl, Below.refl _ _⟩
  case round =>
    obtain ⟨k, hkN, rfl, rfl, hnx⟩ := hrel
    by_cases hlt : k < N
    · obtain ⟨e, he⟩ : ∃ e, L[k]? = some e := ⟨L[k]'(by have := HN.out; omega), List.getElem?_eq_getElem _⟩
      obtain ⟨g1, rfl, _, c1⟩ := (hr1'.below hnx) k e he
      obtain ⟨g2, rfl, _, c2⟩ := (hr2.below hnx) k e he
      have he63 := HM.out k e he
      have hs1 := psum_take_succ he
      have hs2 := psum_take_le L (k + 1)
      have hs3 := HS.out
      have hb0 : psum (L.take k) + 2 ^ e < 9223372036854775808 := by omega
      have hp2 : 2 ^ e < 9223372036854775808 := by omega
      have HE := Lib.hid hs1
      generalize psum (List.take k L) = s at *
      have HX := Lib.hid hnx
      clear hs1 hs2 hs3 hnx he hr1' hr2 hb12 hk
      have hd : decide (62 < e) = false := by simp; omega
      go_wp2
      go_quiet (fail)
      go_wp2
      go_roundw
      case rel => exact ⟨k + 1, by omega, by go_num, by rw [HE.out]; exact congrArg (Value.int .i64) (wrap_pow s e hb0), below_drewN HX.out nq⟩
      case measure => simp [intOf]; omega
    · obtain rfl : k = N := by omega
      have e1 : psum (List.take k L) = r := by rw [← HN.out, List.take_length]; exact HS.out
      rw [e1]
      have hm := HR.out
      have H1 := Lib.hid hnx
      have hbw := hb12.trans (hnx.mono hb12.size)
      have H2 := Lib.hid hbw
      have hkn := hk wr hbw
      clear e1 hnx hbw hk hb12 hr1' hr2 HS HM HN
      go_wp2_with (go_at_call 12; refine hkn.mono ?_; rintro e w4 ⟨rfl, hb4⟩)
      go_ret
      exact ⟨rfl, H2.out.trans (hb4.mono H2.out.size)⟩
end Go.Proofs.YtjojgpccmedhpaaDoor
