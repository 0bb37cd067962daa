/- The walk of the law SaturDivides at this translation. -/
import Derived.Test.YtjojgpccmedhpaaDoorRefDiv
import Derived.Test.YtjojgpccmedhpaaDoorInverseW
namespace Go.Proofs.YtjojgpccmedhpaaDoor
open Go.RowKit
set_option linter.unusedVariables false
set_option linter.unusedSimpArgs false
theorem ref_muldiv_bad (a b c : Int) (w : World) (h : a < 0 ∨ b < 0 ∨ c < 1) :
    Calls Tryd.prog 14 #[.int .i64 a, .int .i64 b, .int .i64 c] w fun e w' => e = .returned (.tuple #[.int .i64 0, .int .i64 5]) ∧ w = w' := by
  by_cases h1 : a < 0
  · clear h
    go_enter Tryd.func14, Tryd.ntmps14
    go_wp2_with fail
    go_ret2
    exact ⟨rfl, rfl⟩
  · by_cases h2 : b < 0
    · clear h
      go_enter Tryd.func14, Tryd.ntmps14
      go_wp2_with fail
      go_ret2
      exact ⟨rfl, rfl⟩
    · have h3 : c < 1 := by omega
      clear h
      go_enter Tryd.func14, Tryd.ntmps14
      go_wp2_with fail
      go_ret2
      exact ⟨rfl, rfl⟩
theorem ref_muldiv_any (a b c : Int) (w : World) (a0 : 0 ≤ a) (a1 : a ≤ 9223372036854775807) (b0 : 0 ≤ b) (b1 : b ≤ 9223372036854775807) (c0 : 1 ≤ c) (c1 : c ≤ 9223372036854775807) :
    Calls Tryd.prog 14 #[.int .i64 a, .int .i64 b, .int .i64 c] w fun e w' => e = .returned (.tuple #[.int .i64 (mdN (a * b / c)), .int .i64 (mdE (a * b / c))]) ∧ Below w.heap.size w w' := by
  obtain ⟨hi, lo, p0, p1, q0, q1, e, hm⟩ := product_any a b a0 (by omega) b0 (by omega)
  obtain ⟨hiN, rfl⟩ := Int.eq_ofNat_of_zero_le p0
  obtain ⟨loN, rfl⟩ := Int.eq_ofNat_of_zero_le q0
  obtain ⟨cN, rfl⟩ := Int.eq_ofNat_of_zero_le (show 0 ≤ c by omega)
  have hN : a * b = ((hiN * 18446744073709551616 + loN : Nat) : Int) := by rw [e]; omega
  rw [hN]
  exact ref_muldiv_walk a b cN hiN loN _ w a0 a1 b0 b1 (by omega) (by omega) (by omega) (by omega) rfl hm
theorem muldiv_both (a b c : Int) (a0 : -9223372036854775808 ≤ a) (a1 : a ≤ 9223372036854775807) (b0 : -9223372036854775808 ≤ b) (b1 : b ≤ 9223372036854775807) (c0 : -9223372036854775808 ≤ c) (c1 : c ≤ 9223372036854775807) :
    ∃ X E : Int, (∀ w, Calls Tryd.prog 13 #[.int .i64 a, .int .i64 b, .int .i64 c] w fun e w' => e = .returned (.tuple #[.int .i64 X, .int .i64 E]) ∧ ∃ n, w' = w.drewN n) ∧
      ∀ w, Calls Tryd.prog 14 #[.int .i64 a, .int .i64 b, .int .i64 c] w fun e w' => e = .returned (.tuple #[.int .i64 X, .int .i64 E]) ∧ Below w.heap.size w w' := by
  by_cases h : a < 0 ∨ b < 0 ∨ c < 1
  · exact ⟨0, 5, fun w => (muldiv_bad a b c w h).mono fun _ _ k => ⟨k.1, 0, k.2.symm⟩, fun w => (ref_muldiv_bad a b c w h).mono fun _ _ k => ⟨k.1, k.2 ▸ Below.refl _ _⟩⟩
  · exact ⟨_, _, fun w => muldiv_any a b c w (by omega) a1 (by omega) b1 (by omega) c1, fun w => ref_muldiv_any a b c w (by omega) a1 (by omega) b1 (by omega) c1⟩
theorem ceil_both (a b : Int) (a1 : a ≤ 9223372036854775807) (b1 : b ≤ 9223372036854775807) :
    ∃ X E : Int, (∀ w, Calls Tryd.prog 15 #[.int .i64 a, .int .i64 b] w fun e w' => e = .returned (.tuple #[.int .i64 X, .int .i64 E]) ∧ w = w') ∧
      ∀ w, Calls Tryd.prog 16 #[.int .i64 a, .int .i64 b] w fun e w' => e = .returned (.tuple #[.int .i64 X, .int .i64 E]) ∧ w = w' := by
  by_cases h : a < 0 ∨ b < 1
  · exact ⟨0, 5, fun w => ceil_err a b w h, fun w => ref_ceil_err a b w h⟩
  · exact ⟨_, _, fun w => ceil_ok a b w (by omega) a1 (by omega) b1, fun w => ref_ceil_ok a b w (by omega) a1 (by omega) b1⟩
set_option maxHeartbeats 400000 in
theorem saturDivides_walk (a b c : Int) (wa : (Lit.int .i64 a).wf = true) (wb : (Lit.int .i64 b).wf = true) (wc : (Lit.int .i64 c).wf = true) (W : World) (hg : 2 < W.heap.size) (hT : TabAt 2 Lib.deBruijn64tab W) :
    Calls Tryd.prog 4 #[.int .i64 a, .int .i64 b, .int .i64 c] W fun e w' => e = .returned (.bool true) ∧ Below W.heap.size W w' := by
  obtain ⟨a0, a1⟩ := wf_bd wa
  obtain ⟨b0, b1⟩ := wf_bd wb
  obtain ⟨c0, c1⟩ := wf_bd wc
  obtain ⟨X, E, k1, k2⟩ := muldiv_both a b c a0 a1 b0 b1 c0 c1
  obtain ⟨P, G, k3, k4⟩ := ceil_both a b a1 b1
  have hk := fun (w : World) (h : Below W.heap.size W w) => known_any w (Nat.lt_of_lt_of_le hg h.size) (tab_below hT hg h)
  clear hT wa wb wc
  go_enter Tryd.func4, Tryd.ntmps4
  go_wp2_with (first
    | (go_at_call 13; refine (k1 _).mono ?_; rintro e w' ⟨rfl, n, rfl⟩)
    | (go_at_call 14; refine (k2 _).mono ?_; rintro e w1 ⟨rfl, hb1⟩)
    | (go_at_call 15; refine (k3 _).mono ?_; rintro e w' ⟨rfl, rfl⟩)
    | (go_at_call 16; refine (k4 _).mono ?_; rintro e w' ⟨rfl, rfl⟩)
    | (go_at_call 12; refine (hk _ ((below_drewN (Below.refl _ _) n).trans hb1)).mono ?_; rintro e w2 ⟨rfl, hb2⟩))
  go_ret
  have hbw : Below W.heap.size W w1 := (below_drewN (Below.refl _ _) n).trans hb1
  exact ⟨rfl, hbw.trans (hb2.mono hbw.size)⟩
end Go.Proofs.YtjojgpccmedhpaaDoor
