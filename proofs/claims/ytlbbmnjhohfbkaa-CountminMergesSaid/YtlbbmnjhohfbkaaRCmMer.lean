/- The contract of the reference's MergeCountMin . -/
import Derived.Test.YtlbbmnjhohfbkaaRCmMerB
namespace Go.Proofs.Ytlbbmnjhohfbkaa
open Go.RowKit
set_option linter.unusedVariables false
set_option linter.unusedSimpArgs false
set_option maxRecDepth 100000 in
set_option maxHeartbeats 4000000 in
theorem rcmer_any (c d : CM) (v u : Value) (w : World) (hc : WfC c) (hd : WfC d) (hv : RdC c v w) (hu : RdC d u w) :
    Calls Try.prog 24 #[v, u] w fun e w' =>
      ∃ r, e = .returned (.tuple #[r, .int .i64 (cmMerE c d)]) ∧ OwnC w.heap.size (cmMer c d) r w' ∧ Below w.heap.size w w' := by
  obtain ⟨D, S, x, A, s⟩ := c
  obtain ⟨E, T, y, M, t⟩ := d
  obtain ⟨⟨D0, D1⟩, ⟨S0, S1⟩, x0, x1⟩ := hc
  obtain ⟨⟨E0, E1⟩, ⟨T0, T1⟩, y0, y1⟩ := hd
  obtain ⟨a, n, cap, rfl, hR⟩ := hv
  obtain ⟨a2, n2, cap2, rfl, hR2⟩ := hu
  dsimp only at D0 D1 S0 S1 x0 x1 hR E0 E1 T0 T1 y0 y1 hR2 ⊢
  have h1 := fun (w' : World) (hb : Below w.heap.size w w') => rcval_any D S x A a n cap s w' D0 D1 S0 S1 (hR.below hb)
  have h2 := fun (w' : World) (hb : Below w.heap.size w w') => rcval_any E T y M a2 n2 cap2 t w' E0 E1 T0 T1 (hR2.below hb)
  have M0 := Lib.hid (MerM.new D S x (.slice a n cap) s E T y (.slice a2 n2 cap2) t 26 w)
  have HB0 := Lib.hid (b3 (a := w) (.cells #[.int .i64 D, .int .i64 S, .int .u64 x, .slice a n cap, .bool s] 26) (.cells #[.int .i64 E, .int .i64 T, .int .u64 y, .slice a2 n2 cap2, .bool t] 26) (.cells #[.int .i64 0, .int .i64 0, .int .u64 0, .slice none 0 0, .bool false] 26))
  unfold cmMer cmMerE
  dsimp only
  by_cases hE : cmE D S A = 0
  · have hok := cmE_ok hE
    rw [hE] at h1 ⊢
    rw [if_neg (by simp)]
    by_cases hF : cmE E T M = 0
    · have hok2 := cmE_ok hF
      rw [hF] at h2 ⊢
      rw [if_neg (by simp)]
      by_cases hK : D ≠ E ∨ S ≠ T ∨ x ≠ y
      · rw [if_pos hK, if_pos (by simp)]
        clear hE hF hok hok2
        have hK' : (D != E) = true ∨ (D != E) = false ∧ (S != T) = true ∨ (D != E) = false ∧ (S != T) = false ∧ (x != y) = true := by
          simp only [bne_iff_ne, bne_eq_false_iff_eq, ne_eq]
          omega
        clear hK
        rcases hK' with k1 | ⟨k1, k2⟩ | ⟨k1, k2, k3⟩
        all_goals
          go_enter Try.func24, Try.ntmps24
          go_wp2_with (first
            | (go_at_call 22; (with_reducible refine (h1 _ HB0.out).mono ?_); rintro e w2 ⟨rfl, hb2⟩; have B2 := Lib.hid (bgo HB0.out hb2); have M2 := Lib.hid (M0.out.below hb2 (by simp)); have L2 := Lib.hid (show w.heap.size + 3 ≤ w2.heap.size by have := hb2.size; simp at this; omega); obtain ⟨⟨⟨q20, q21, q22, q23, q24⟩, f20, f21, f22, f23, f24⟩, ⟨⟨p20, p21, p22, p23, p24⟩, _⟩, _⟩ := M2.out; clear hb2 h1)
            | (go_at_call 22; (with_reducible refine (h2 _ B2.out).mono ?_); rintro e w3 ⟨rfl, hb3⟩; have B3 := Lib.hid (bgo B2.out hb3); have M3 := Lib.hid (M2.out.below hb3 (by have := L2.out; omega)); obtain ⟨⟨⟨q30, q31, q32, q33, q34⟩, f30, f31, f32, f33, f34⟩, ⟨⟨p30, p31, p32, p33, p34⟩, _⟩, ⟨r30, r31, r32, r33, r34⟩, g30, g31, g32, g33, g34⟩ := M3.out; clear hb3))
          refine bodyPost_ret (v := .tuple #[.agg #[.int .i64 0, .int .i64 0, .int .u64 0, .slice none 0 0, .bool false], .int .i64 10]) (by simp [results, Try.results24, go_sem, *]) rfl ⟨_, rfl, noneC_own _ _, ?_⟩
          exact bset5 B3.out _ (by omega) _ _ _ _ _
      · rw [if_neg hK, if_neg (by simp)]
        have hKK : D = E ∧ S = T ∧ x = y := by omega
        obtain ⟨rfl, rfl, rfl⟩ := hKK
        obtain ⟨sf, hsf⟩ : ∃ sf, (s || t) = sf := ⟨_, rfl⟩
        have hs2 : s = true ∧ sf = true ∨ s = false ∧ sf = t := by subst hsf; cases s <;> simp
        rw [hsf]
        have HSF := Lib.hid hsf
        clear hsf
        rcases hs2 with ⟨rfl, rfl⟩ | ⟨rfl, rfl⟩
        · exact rcmer_t D S x A M t a a2 n cap n2 cap2 w D0 D1 S0 S1 x0 x1 hE hF hR hR2
        · exact rcmer_f D S x A M sf a a2 n cap n2 cap2 w D0 D1 S0 S1 x0 x1 hE hF hR hR2
    · rw [if_pos hF, if_pos hF]
      have hF2 : (cmE E T M != 0) = true := by simpa using hF
      generalize cmE E T M = F at *
      clear hF hE hok
      go_enter Try.func24, Try.ntmps24
      go_wp2_with (first
        | (go_at_call 22; (with_reducible refine (h1 _ HB0.out).mono ?_); rintro e w2 ⟨rfl, hb2⟩; have B2 := Lib.hid (bgo HB0.out hb2); have M2 := Lib.hid (M0.out.below hb2 (by simp)); have L2 := Lib.hid (show w.heap.size + 3 ≤ w2.heap.size by have := hb2.size; simp at this; omega); obtain ⟨⟨⟨q20, q21, q22, q23, q24⟩, f20, f21, f22, f23, f24⟩, ⟨⟨p20, p21, p22, p23, p24⟩, _⟩, _⟩ := M2.out; clear hb2 h1)
        | (go_at_call 22; (with_reducible refine (h2 _ B2.out).mono ?_); rintro e w3 ⟨rfl, hb3⟩; have B3 := Lib.hid (bgo B2.out hb3); have M3 := Lib.hid (M2.out.below hb3 (by have := L2.out; omega)); obtain ⟨⟨⟨q30, q31, q32, q33, q34⟩, f30, f31, f32, f33, f34⟩, ⟨⟨p30, p31, p32, p33, p34⟩, _⟩, ⟨r30, r31, r32, r33, r34⟩, g30, g31, g32, g33, g34⟩ := M3.out; clear hb3))
      refine bodyPost_ret (v := .tuple #[.agg #[.int .i64 0, .int .i64 0, .int .u64 0, .slice none 0 0, .bool false], .int .i64 F]) (by simp [results, Try.results24, go_sem, *]) rfl ⟨_, rfl, noneC_own _ _, ?_⟩
      exact bset5 B3.out _ (by omega) _ _ _ _ _
  · rw [if_pos hE]
    have hE2 : (cmE D S A != 0) = true := by simpa using hE
    rw [if_pos hE]
    generalize cmE D S A = F at *
    clear hE
    go_enter Try.func24, Try.ntmps24
    go_wp2_with (go_at_call 22; (with_reducible refine (h1 _ HB0.out).mono ?_); rintro e w2 ⟨rfl, hb2⟩; have B2 := Lib.hid (bgo HB0.out hb2); have M2 := Lib.hid (M0.out.below hb2 (by simp)); obtain ⟨_, _, ⟨r20, r21, r22, r23, r24⟩, g20, g21, g22, g23, g24⟩ := M2.out; clear hb2 h1)
    refine bodyPost_ret (v := .tuple #[.agg #[.int .i64 0, .int .i64 0, .int .u64 0, .slice none 0 0, .bool false], .int .i64 F]) (by simp [results, Try.results24, go_sem, *]) rfl ⟨_, rfl, noneC_own _ _, ?_⟩
    exact bset5 B2.out _ (by omega) _ _ _ _ _
end Go.Proofs.Ytlbbmnjhohfbkaa
