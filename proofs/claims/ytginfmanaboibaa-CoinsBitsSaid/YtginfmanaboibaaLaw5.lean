/- The walks of the laws of layer 5. -/
import Derived.Test.YtginfmanaboibaaKnown5
import Derived.Deep.RegionHeld3
namespace Go.Proofs.Ytginfmanaboibaa
open Go.RowKit
set_option linter.unusedVariables false
set_option linter.unusedSimpArgs false
theorem l_rbit {L : List Int} {v : Value} {w : World} (h : Rd L v w) (i : Int) (i0 : -9223372036854775808 ≤ i) (i1 : i ≤ 9223372036854775807) :
    Calls Try.prog 9 #[v, .int .i64 i] w fun e w' => e = .returned (.int .i64 (bitI L i)) ∧ Below w.heap.size w w' :=
  (rbit_any L v i w i0 i1 h).mono fun e w' ⟨he, hn⟩ => ⟨he, hn ▸ Below.refl _ _⟩
theorem l_rheads {L : List Int} {v : Value} {w : World} (h : Rd L v w) (hl : L.length ≤ 1000) (f t : Int) (f0 : -9223372036854775808 ≤ f) (f1 : f ≤ 9223372036854775807) (t0 : -9223372036854775808 ≤ t) (t1 : t ≤ 9223372036854775807) :
    Calls Try.prog 13 #[v, .int .i64 f, .int .i64 t] w fun e w' => e = .returned (.int .i64 (headsI L f t)) ∧ Below w.heap.size w w' :=
  (rheads_any L v f t w f0 f1 t0 t1 hl h).mono fun e w' ⟨he, hn⟩ => ⟨he, hn ▸ Below.refl _ _⟩
set_option maxRecDepth 100000 in
set_option maxHeartbeats 1000000 in
theorem coinsBits_walk (a : Option Addr) (m cap : Nat) (z : List Int) (i k : Int) (W : World) (w0 : InRow .u8 W a m cap z) (w1 : (Lit.int .i64 i).wf = true) (w2 : (Lit.int .i64 k).wf = true) :
    Calls Try.prog 3 #[.slice a m cap, .int .i64 i, .int .i64 k] W fun e w' => e = .returned (.bool true) ∧ Below W.heap.size W w' := by
  have hr := inRow_rd w0
  obtain ⟨i0, i1⟩ := wf_bd w1
  obtain ⟨k0, k1⟩ := wf_bd w2
  have hm : m ≤ 9223372036854775807 := by have := w0.1; have := w0.2.1; unfold maxLen at this; omega
  by_cases hg : 1000 < m
  · clear hr w0 w1 w2
    go_enter Try.func3, Try.ntmps3
    go_wp2_with (go_at_call 7; refine (known_any _).mono ?_; rintro e w' ⟨rfl, hb⟩)
    go_ret
    exact ⟨rfl, hb⟩
  · have hk : bits .and .i64 k 63 = k % 64 := i64_mask 6 (by decide) k
    have h1 := fun (w : World) (hb : Below W.heap.size W w) => k_bit (hr.below hb) i i0 i1 rfl
    have h2 := fun (w : World) (hb : Below W.heap.size W w) => l_rbit (hr.below hb) i i0 i1
    have h3 := fun (w : World) (hb : Below W.heap.size W w) => k_bit (hr.below hb) (k % 64 - 2) (by omega) (by omega) rfl
    have h4 := fun (w : World) (hb : Below W.heap.size W w) => l_rbit (hr.below hb) (k % 64 - 2) (by omega) (by omega)
    have hm1 : m ≤ 1000 := by omega
    clear hr w0 w1 w2 hg
    generalize bitI (z.take m) i = x at *
    generalize bitI (z.take m) (k % 64 - 2) = y at *
    go_enter Try.func3, Try.ntmps3
    go_wp2_with (first
      | (go_at_call 8; first
        | ((with_reducible refine (h1 _ (Below.refl _ _)).mono ?_); rintro e v1 ⟨rfl, b1⟩; clear h1)
        | ((with_reducible refine (h3 _ B2).mono ?_); rintro e v3 ⟨rfl, b3⟩; have B3 := B2.trans (b3.mono B2.size); clear h3))
      | (go_at_call 9; first
        | ((with_reducible refine (h2 _ b1).mono ?_); rintro e v2 ⟨rfl, b2⟩; have B2 := b1.trans (b2.mono b1.size); clear h2)
        | ((with_reducible refine (h4 _ B3).mono ?_); rintro e v4 ⟨rfl, b4⟩; have B4 := B3.trans (b4.mono B3.size)))
      | (go_at_call 7; refine (known_any _).mono ?_; rintro e w' ⟨rfl, hb⟩))
    go_ret
    exact ⟨rfl, B4.trans (hb.mono B4.size)⟩
set_option maxRecDepth 100000 in
set_option maxHeartbeats 1000000 in
theorem coinsPacks_walk (a : Option Addr) (m cap : Nat) (z : List Int) (W : World) (w0 : InRow .i64 W a m cap z) :
    Calls Try.prog 4 #[.slice a m cap] W fun e w' => e = .returned (.bool true) ∧ Below W.heap.size W w' := by
  have hr := inRow_rdI w0
  have hlz : (z.take m).length = m := by have := w0.1; have := w0.2.2.1; simp; omega
  have hm : m ≤ 9223372036854775807 := by have := w0.1; have := w0.2.1; unfold maxLen at this; omega
  by_cases hg : 1000 < m
  · clear hr w0
    go_enter Try.func4, Try.ntmps4
    go_wp2_with (go_at_call 7; refine (known_any _).mono ?_; rintro e w' ⟨rfl, hb⟩)
    go_ret
    exact ⟨rfl, hb⟩
  · have hm1 : m ≤ 1000 := by omega
    have h1 := fun (w : World) (hb : Below W.heap.size W w) => pack_any (z.take m) (.slice a m cap) w (by omega) (hr.below hb)
    have h2 := fun (w : World) (hb : Below W.heap.size W w) => rpack_any (z.take m) (.slice a m cap) w (by omega) (hr.below hb)
    rw [hlz] at h1 h2
    clear hr w0 hg hlz
    generalize pk (z.take m) ((m + 7) / 8) m = P at *
    go_enter Try.func4, Try.ntmps4
    go_wp2
    go_region_held (fun w' => Below W.heap.size W w') (first | assumption | exact (Below.refl _ _).drew) (first
      | (go_at_call 10; refine (h1 _ (Below.refl _ W).drew).mono ?_; rintro e x1 ⟨v1, rfl, o1, b1⟩; have S1 : Below W.heap.size W x1 := (Below.refl _ W).drew.trans b1; have d1 := o1.rd.conv)
      | (go_at_call 11; refine (h2 _ S1).mono ?_; rintro e x2 ⟨v2, rfl, o2, b2⟩; have S2 : Below W.heap.size W x2 := S1.trans (b2.mono S1.size); have d2 := o2.rd.conv; have d1' := (o1.below b2).rd.conv)
      | (go_at_call 7; refine (known_any _).mono ?_; rintro e x3 ⟨rfl, b3⟩; have S3 : Below W.heap.size W x3 := S2.trans (b3.mono S2.size)))
    all_goals go_wp2
    all_goals go_ret
    all_goals exact ⟨rfl, S3⟩
set_option maxRecDepth 100000 in
set_option maxHeartbeats 1000000 in
theorem coinsHeads_walk (a : Option Addr) (m cap : Nat) (z : List Int) (f g t : Int) (W : World) (w0 : InRow .u8 W a m cap z) (w1 : (Lit.int .i64 f).wf = true) (w2 : (Lit.int .i64 g).wf = true) (w3 : (Lit.int .i64 t).wf = true) :
    Calls Try.prog 6 #[.slice a m cap, .int .i64 f, .int .i64 g, .int .i64 t] W fun e w' => e = .returned (.bool true) ∧ Below W.heap.size W w' := by
  have hr := inRow_rd w0
  have hlz : (z.take m).length = m := by have := w0.1; have := w0.2.2.1; simp; omega
  obtain ⟨f0, f1⟩ := wf_bd w1
  obtain ⟨g0, g1⟩ := wf_bd w2
  obtain ⟨t0, t1⟩ := wf_bd w3
  have hm : m ≤ 9223372036854775807 := by have := w0.1; have := w0.2.1; unfold maxLen at this; omega
  by_cases hg : 300 < m
  · clear hr w0 w1 w2 w3
    go_enter Try.func6, Try.ntmps6
    go_wp2_with (go_at_call 7; refine (known_any _).mono ?_; rintro e w' ⟨rfl, hb⟩)
    go_ret
    exact ⟨rfl, hb⟩
  · have m1 : bits .and .i64 f 255 = f % 256 := i64_mask 8 (by decide) f
    have m2 : bits .and .i64 g 255 = g % 256 := i64_mask 8 (by decide) g
    have m3 : bits .and .i64 t 255 = t % 256 := i64_mask 8 (by decide) t
    have hm1 : m ≤ 300 := by omega
    have h1 := fun (w : World) (hb : Below W.heap.size W w) => k_heads (hr.below hb) (by omega) f t f0 f1 t0 t1 rfl
    have h2 := fun (w : World) (hb : Below W.heap.size W w) => l_rheads (hr.below hb) (by omega) f t f0 f1 t0 t1
    have h3 := fun (w : World) (hb : Below W.heap.size W w) => k_heads (hr.below hb) (by omega) (f % 256) (f % 256 + g % 256 + t % 256) (by omega) (by omega) (by omega) (by omega) rfl
    have h4 := fun (w : World) (hb : Below W.heap.size W w) => k_heads (hr.below hb) (by omega) (f % 256) (f % 256 + g % 256) (by omega) (by omega) (by omega) (by omega) rfl
    have h5 := fun (w : World) (hb : Below W.heap.size W w) => k_heads (hr.below hb) (by omega) (f % 256 + g % 256) (f % 256 + g % 256 + t % 256) (by omega) (by omega) (by omega) (by omega) rfl
    have hadd := heads_add (z.take m) (f % 256) (f % 256 + g % 256) (f % 256 + g % 256 + t % 256) (by omega) (by omega) (by omega)
    have bd1 := heads_bd (z.take m) (f % 256) (f % 256 + g % 256)
    have bd2 := heads_bd (z.take m) (f % 256 + g % 256) (f % 256 + g % 256 + t % 256)
    rw [hlz] at bd1 bd2
    rw [hadd] at h3
    clear hr w0 w1 w2 w3 hg hlz hadd
    generalize headsI (z.take m) f t = x at *
    generalize headsI (z.take m) (f % 256) (f % 256 + g % 256) = y at *
    generalize headsI (z.take m) (f % 256 + g % 256) (f % 256 + g % 256 + t % 256) = u at *
    go_enter Try.func6, Try.ntmps6
    go_wp2_with (first
      | (go_at_call 12; first
        | ((with_reducible refine (h1 _ (Below.refl _ _)).mono ?_); rintro e v1 ⟨rfl, b1⟩; clear h1)
        | ((with_reducible refine (h3 _ B2).mono ?_); rintro e v3 ⟨rfl, b3⟩; have B3 := B2.trans (b3.mono B2.size); clear h3)
        | ((with_reducible refine (h4 _ B3).mono ?_); rintro e v4 ⟨rfl, b4⟩; have B4 := B3.trans (b4.mono B3.size); clear h4)
        | ((with_reducible refine (h5 _ B4).mono ?_); rintro e v5 ⟨rfl, b5⟩; have B5 := B4.trans (b5.mono B4.size); clear h5))
      | (go_at_call 13; (with_reducible refine (h2 _ b1).mono ?_); rintro e v2 ⟨rfl, b2⟩; have B2 := b1.trans (b2.mono b1.size); clear h2)
      | (go_at_call 7; refine (known_any _).mono ?_; rintro e w' ⟨rfl, hb⟩))
    go_ret
    exact ⟨rfl, B5.trans (hb.mono B5.size)⟩
end Go.Proofs.Ytginfmanaboibaa
