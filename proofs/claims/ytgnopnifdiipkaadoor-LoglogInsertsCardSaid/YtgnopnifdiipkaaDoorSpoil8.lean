/- The contract of sketchstorelaw8.spoil. -/
import Derived.Test.YtgnopnifdiipkaaDoorMade8
namespace Go.Proofs.YtgnopnifdiipkaaDoor
open Go.RowKit
set_option linter.unusedVariables false
set_option linter.unusedSimpArgs false
theorem mask5 (n : Int) : bits .and .i64 n 31 = n % 32 := i64_mask 5 (by decide) n
theorem mask7 (n : Int) : bits .and .i64 n 127 = n % 128 := i64_mask 7 (by decide) n
theorem OwnI.oneAt {c : Int} (hc : -9223372036854775808 ≤ c ∧ c ≤ 9223372036854775807) (w : World) {k : Nat} (hk : w.heap.size = k) : OwnI k [c] (.slice (some ⟨k, 0, none⟩) 1 1) (w.alloc (.cells #[.int .i64 c] 3)) := by
  subst hk
  exact OwnI.one hc w
/-- The struct to be spoilt, the result's struct, the registers. -/
def SpL (W : World) (P x : Int) (L : List Int) (u : Value) (w : World) : Prop :=
  LSt W.heap.size P x u w ∧ LSt (W.heap.size + 1) 0 0 (.slice none 0 0) w ∧ OwnI (W.heap.size + 2) L u w ∧ Below W.heap.size W w
theorem SpL.drewN {W : World} {P x : Int} {L : List Int} {u : Value} {w : World} (h : SpL W P x L u w) (j : Nat) : SpL W P x L u (w.drewN j) := ⟨h.1, h.2.1, h.2.2.1, below_drewN h.2.2.2 j⟩
theorem SpL.store {W : World} {P x : Int} {L : List Int} {g n cap : Nat} {w : World} (h : SpL W P x L (.slice (some ⟨g, 0, none⟩) n cap) w) (hp : 0 < L.length) (hg : W.heap.size + 2 ≤ g) (j : Nat) (c : Int) (hc : -9223372036854775808 ≤ c ∧ c ≤ 9223372036854775807) :
    SpL W P x (L.set j c) (.slice (some ⟨g, 0, none⟩) n cap) (w.setCell ⟨g, j, none⟩ (.int .i64 c)) := by
  obtain ⟨h1, h2, h3, h4⟩ := h
  obtain ⟨g', he, _, _, _, hst⟩ := h3.cells hp
  obtain rfl : g = g' := by simpa using he
  exact ⟨h1.far (show W.heap.size ≠ g by omega) j (.int .i64 c), h2.far (show W.heap.size + 1 ≠ g by omega) j (.int .i64 c), hst j c hc, bset h4 g j (.int .i64 c) (by omega)⟩
/-- Some sketch that can be read. -/
def AnyL (w : World) (e : Ending) (w' : World) : Prop := ∃ c u, e = .returned u ∧ WfL c ∧ RdL c u w' ∧ Below w.heap.size w w'
set_option maxRecDepth 100000 in
set_option maxHeartbeats 4000000 in
theorem spoil_any (c : LL) (v : Value) (n : Int) (W : World) (hc : WfL c) (hv : RdL c v W) (hp : 0 < c.L.length) (hq : c.L.length ≤ 1000) (hP0 : 2 ≤ c.P) (hP1 : c.P ≤ 8) (n0 : -9223372036854775808 ≤ n) (n1 : n ≤ 9223372036854775807) :
    Calls Tryd.prog 16 #[v, .int .i64 n] W (AnyL W) := by
  obtain ⟨P, x, L⟩ := c
  obtain ⟨a, ln, cap, rfl, hR⟩ := hv
  dsimp only at hR hp hq hP0 hP1 ⊢
  have HC := Lib.hid hc
  have m1 := mask3 n
  have m2 := mask4 (n / 8)
  have m4 := mask5 (n / 8)
  have m5 := mask7 (n / 8 / 32)
  have e1 : 0 ≤ n % 8 ∧ n % 8 ≤ 7 := by omega
  have e2 : 0 ≤ n / 8 % 16 ∧ n / 8 % 16 ≤ 15 := by omega
  have e4 : 0 ≤ n / 8 % 32 ∧ n / 8 % 32 ≤ 31 := by omega
  have e5 : 0 ≤ n / 8 / 32 % 128 ∧ n / 8 / 32 % 128 ≤ 127 := by omega
  have hL0 : (L.length : Int) ≠ 0 := by omega
  obtain ⟨j, hj⟩ : ∃ j : Nat, n / 8 % 32 % (L.length : Int) = (j : Int) := ⟨(n / 8 % 32 % (L.length : Int)).toNat, by have := Int.emod_nonneg (n / 8 % 32) hL0; omega⟩
  have hjl : j < L.length := by have := Int.emod_lt_of_pos (n / 8 % 32) (show (0 : Int) < L.length by omega); omega
  generalize n % 8 = r at *
  generalize n / 8 / 32 % 128 = t at *
  generalize n / 8 % 16 = p16 at *
  generalize n / 8 % 32 = p32 at *
  have HR := Lib.hid (hR.below (b2 (.cells #[.int .i64 P, .int .u64 x, .slice a ln cap] 26) (.cells #[.int .i64 0, .int .u64 0, .slice none 0 0] 26)))
  have C0 := Lib.hid (show LSt W.heap.size P x (.slice a ln cap) ((W.alloc (.cells #[.int .i64 P, .int .u64 x, .slice a ln cap] 26)).alloc (.cells #[.int .i64 0, .int .u64 0, .slice none 0 0] 26)) from (LSt.new _ _ _ _ _).below (b1 _) (by simp))
  have Z0 := Lib.hid (show LSt (W.heap.size + 1) 0 0 (.slice none 0 0) ((W.alloc (.cells #[.int .i64 P, .int .u64 x, .slice a ln cap] 26)).alloc (.cells #[.int .i64 0, .int .u64 0, .slice none 0 0] 26)) from by
    have := LSt.new 0 0 (.slice none 0 0) 26 (W.alloc (.cells #[.int .i64 P, .int .u64 x, .slice a ln cap] 26))
    rwa [show (W.alloc (.cells #[.int .i64 P, .int .u64 x, .slice a ln cap] 26)).heap.size = W.heap.size + 1 by simp] at this)
  have B0 := Lib.hid (b2 (a := W) (.cells #[.int .i64 P, .int .u64 x, .slice a ln cap] 26) (.cells #[.int .i64 0, .int .u64 0, .slice none 0 0] 26))
  clear hR hc
  have hr5 : r = 0 ∨ r = 1 ∨ r = 2 ∨ r = 3 ∨ ((r == 0) = false ∧ (r == 1) = false ∧ (r == 2) = false ∧ (r == 3) = false) := by
    simp only [beq_eq_false_iff_ne, ne_eq]
    omega
  rcases hr5 with rfl | rfl | rfl | rfl | ⟨r0, r1, r2, r3⟩
  · go_enter Tryd.func16, Tryd.ntmps16
    go_wp2_with (at_builtin; refine wp_appI rfl _ _ _ rfl (W.heap.size + 2) [] L _ _ rfl rfl (OwnI.empty _ _) HR.out.src (by simp) (by simp; omega) ?_; intro u w2 ho2 hb2; rw [List.nil_append] at ho2; have B2 := Lib.hid (B0.out.trans (hb2.mono (by omega))); have C2 := Lib.hid (C0.out.below hb2 (by omega)); have Z2 := Lib.hid (Z0.out.below hb2 (by omega)); obtain ⟨⟨p0, p1, p2⟩, f0, f1, f2⟩ := C2.out; obtain ⟨⟨q0, q1, q2⟩, g0, g1, g2⟩ := Z2.out; have hs2 : W.heap.size + 1 < w2.heap.size := block_lt_of_cell q0; have O2 := Lib.hid ho2; obtain ⟨a2, c2, hv2⟩ := ho2.rd.shape; subst hv2; clear ho2 hb2 HR)
    refine bodyPost_ret (v := .agg #[.int .i64 p16, .int .u64 x, .slice a2 L.length c2]) (by simp [results, Tryd.results16, go_sem, *]) rfl ⟨⟨p16, x, L⟩, _, rfl, HC.out, ⟨_, _, _, rfl, ?_⟩, ?_⟩
    · exact ((O2.out.keep (show W.heap.size < W.heap.size + 2 by omega) _ _).keep (show W.heap.size < W.heap.size + 2 by omega) _ _).keep3 (by omega) _ _ _ |>.rd
    · exact bset3 (bset (bset B2.out _ _ _ (Nat.le_refl _)) _ _ _ (Nat.le_refl _)) _ (by omega) _ _ _
  · go_enter Tryd.func16, Tryd.ntmps16
    go_wp2_with (first
      | (at_builtin; refine wp_appI rfl _ _ _ rfl (W.heap.size + 2) [] L _ _ rfl rfl (OwnI.empty _ _) HR.out.src (by simp) (by simp; omega) ?_; intro u w2 ho2 hb2; rw [List.nil_append] at ho2; have B2 := Lib.hid (B0.out.trans (hb2.mono (by omega))); have C2 := Lib.hid (C0.out.below hb2 (by omega)); have Z2 := Lib.hid (Z0.out.below hb2 (by omega)); obtain ⟨⟨p0, p1, p2⟩, f0, f1, f2⟩ := C2.out; obtain ⟨⟨q0, q1, q2⟩, g0, g1, g2⟩ := Z2.out; have hs2 : W.heap.size + 1 < w2.heap.size := block_lt_of_cell q0; have O2 := Lib.hid ho2; obtain ⟨a2, c2, hv2⟩ := ho2.rd.shape; subst hv2; clear ho2 hb2 HR)
      | (at_builtin; refine wp_appI rfl _ _ _ rfl (W.heap.size + 2) L [0] _ _ rfl rfl ((O2.out.keep (show W.heap.size < W.heap.size + 2 by omega) _ _).alloc _) (OwnI.oneAt (by omega) (w2.setCell ⟨W.heap.size, 2, none⟩ (.slice a2 L.length c2)) (by simp)).rd.src (by simp; omega) (by simp; omega) ?_; intro u w3 ho3 hb3; have B3 := Lib.hid ((bal (bset B2.out _ _ _ (Nat.le_refl _)) _).trans (hb3.mono (by omega))); have C3 := Lib.hid (((C2.out.setV (.slice a2 L.length c2)).below (b1 _) (by simp; omega)).below hb3 (by omega)); have Z3 := Lib.hid (((Z2.out.far (show W.heap.size + 1 ≠ W.heap.size by omega) _ _).below (b1 _) (by simp; omega)).below hb3 (by omega)); clear p0 p1 p2 f0 f1 f2 q0 q1 q2 g0 g1 g2; obtain ⟨⟨p0, p1, p2⟩, f0, f1, f2⟩ := C3.out; obtain ⟨⟨q0, q1, q2⟩, g0, g1, g2⟩ := Z3.out; have O3 := Lib.hid ho3; obtain ⟨a3, n3, c3, hv3⟩ : ∃ a n c, u = .slice a n c := ho3.rd.shape.elim fun a h => h.elim fun c h => ⟨a, _, c, h⟩; subst hv3; clear ho3 hb3))
    refine bodyPost_ret (v := .agg #[.int .i64 P, .int .u64 x, .slice a3 n3 c3]) (by simp [results, Tryd.results16, go_sem, *]) rfl ⟨⟨P, x, (L ++ [0])⟩, _, rfl, HC.out, ⟨_, _, _, rfl, ?_⟩, ?_⟩
    · exact ((O3.out.keep (show W.heap.size < W.heap.size + 2 by omega) _ _).keep3 (by omega) _ _ _).rd
    · exact bset3 (bset B3.out _ _ _ (Nat.le_refl _)) _ (by omega) _ _ _
  · go_enter Tryd.func16, Tryd.ntmps16
    go_wp2_with (at_builtin; refine wp_appI rfl _ _ _ rfl (W.heap.size + 2) [] L _ _ rfl rfl (OwnI.empty _ _) HR.out.src (by simp) (by simp; omega) ?_; intro u w2 ho2 hb2; rw [List.nil_append] at ho2; have B2 := Lib.hid (B0.out.trans (hb2.mono (by omega))); have C2 := Lib.hid (C0.out.below hb2 (by omega)); have Z2 := Lib.hid (Z0.out.below hb2 (by omega)); obtain ⟨⟨p0, p1, p2⟩, f0, f1, f2⟩ := C2.out; obtain ⟨⟨q0, q1, q2⟩, g0, g1, g2⟩ := Z2.out; have hs2 : W.heap.size + 1 < w2.heap.size := block_lt_of_cell q0; have O2 := Lib.hid ho2; obtain ⟨a2, c2, hv2⟩ := ho2.rd.shape; subst hv2; clear ho2 hb2 HR)
    obtain ⟨g, rfl, hgB, hgs, hcell, hst⟩ := O2.out.cells hp
    have B3 := Lib.hid (bset B2.out W.heap.size 2 (.slice (some ⟨g, 0, none⟩) L.length c2) (Nat.le_refl _))
    have C3 := Lib.hid (C2.out.setV (.slice (some ⟨g, 0, none⟩) L.length c2))
    have Z3 := Lib.hid (Z2.out.far (show W.heap.size + 1 ≠ W.heap.size by omega) 2 (.slice (some ⟨g, 0, none⟩) L.length c2))
    have O3 := Lib.hid (O2.out.keep (show W.heap.size < W.heap.size + 2 by omega) 2 (.slice (some ⟨g, 0, none⟩) L.length c2))
    clear hcell hst C2 Z2 C0 Z0 B0 B2 O2 p0 p1 p2 f0 f1 f2 q0 q1 q2 g0 g1 g2 hgs hs2
    generalize w2.setCell ⟨W.heap.size, 2, none⟩ (.slice (some ⟨g, 0, none⟩) L.length c2) = w3 at *
    obtain ⟨g', he, _, hgs, hcell, hst⟩ := O3.out.cells hp
    obtain rfl : g = g' := by simpa using he
    clear he
    have hg1 : ¬ g = W.heap.size := by omega
    have hg2 : ¬ W.heap.size = g := by omega
    have hg3 : ¬ g = W.heap.size + 1 := by omega
    have hg4 : ¬ W.heap.size + 1 = g := by omega
    have hj1 := (hcell j hjl).1
    have hj2 := (hcell j hjl).2
    clear hcell hst
    obtain ⟨⟨p0, p1, p2⟩, f0, f1, f2⟩ := C3.out
    obtain ⟨⟨q0, q1, q2⟩, g0, g1, g2⟩ := Z3.out
    have hjI0 : (0 : Int) ≤ (j : Int) := by omega
    have hjI1 : (j : Int) < (L.length : Int) := by omega
    have hpL := Lib.hid hp
    have hz0 : ((L.length : Int) == 0) = false := beq_eq_false_iff_ne.2 hL0
    obtain ⟨e40, e41⟩ := e4
    have hjt : p32.tmod (L.length : Int) = (j : Int) := by rw [Int.tmod_eq_emod_of_nonneg e40, hj]
    obtain ⟨m, hlm⟩ : ∃ m, L.length = m := ⟨_, rfl⟩
    simp only [hlm] at hp hq hL0 hj hjl O3 p2 hz0 hjI1 hjt C3 ⊢
    have hm0 : ¬ m = 0 := by omega
    have hmI : (m : Int) ≤ 1000 := by omega
    have HQ := Lib.hid (show SpL W P x L (.slice (some ⟨g, 0, none⟩) m c2) w3 from ⟨C3.out, Z3.out, by have := O3.out; exact this, B3.out⟩)
    have hgB2 := Lib.hid hgB
    have HLM := Lib.hid hlm
    obtain ⟨e50, e51⟩ := e5
    clear C3 Z3 O3 B3 hlm
    go_wp2
    go_big_region
    have HX := Lib.hid (SpL.store HQ.out hpL.out hgB2.out j (t - 2) (by omega))
    go_wp2
    refine bodyPost_ret (v := .agg #[.int .i64 P, .int .u64 x, .slice (some ⟨g, 0, none⟩) m c2]) (by simp [results, Tryd.results16, go_sem, *]) rfl ⟨⟨P, x, L.set j (t - 2)⟩, _, rfl, HC.out, ⟨_, _, _, rfl, ?_⟩, ?_⟩
    · exact (OwnI.keep3 (k := W.heap.size + 1) HX.out.2.2.1 (by omega) _ _ _).rd
    · exact (bset3 HX.out.2.2.2 (W.heap.size + 1) (by omega) _ _ _).drew
  · go_enter Tryd.func16, Tryd.ntmps16
    go_wp2_with (at_builtin; refine wp_appI rfl _ _ _ rfl (W.heap.size + 2) [] L _ _ rfl rfl (OwnI.empty _ _) HR.out.src (by simp) (by simp; omega) ?_; intro u w2 ho2 hb2; rw [List.nil_append] at ho2; have B2 := Lib.hid (B0.out.trans (hb2.mono (by omega))); have C2 := Lib.hid (C0.out.below hb2 (by omega)); have Z2 := Lib.hid (Z0.out.below hb2 (by omega)); obtain ⟨⟨p0, p1, p2⟩, f0, f1, f2⟩ := C2.out; obtain ⟨⟨q0, q1, q2⟩, g0, g1, g2⟩ := Z2.out; have hs2 : W.heap.size + 1 < w2.heap.size := block_lt_of_cell q0; have O2 := Lib.hid ho2; obtain ⟨a2, c2, hv2⟩ := ho2.rd.shape; subst hv2; clear ho2 hb2 HR)
    obtain ⟨g, rfl, hgB, hgs, hcell, hst⟩ := O2.out.cells hp
    have B3 := Lib.hid (bset B2.out W.heap.size 2 (.slice (some ⟨g, 0, none⟩) L.length c2) (Nat.le_refl _))
    have C3 := Lib.hid (C2.out.setV (.slice (some ⟨g, 0, none⟩) L.length c2))
    have Z3 := Lib.hid (Z2.out.far (show W.heap.size + 1 ≠ W.heap.size by omega) 2 (.slice (some ⟨g, 0, none⟩) L.length c2))
    have O3 := Lib.hid (O2.out.keep (show W.heap.size < W.heap.size + 2 by omega) 2 (.slice (some ⟨g, 0, none⟩) L.length c2))
    clear hcell hst C2 Z2 C0 Z0 B0 B2 O2 p0 p1 p2 f0 f1 f2 q0 q1 q2 g0 g1 g2 hgs hs2
    generalize w2.setCell ⟨W.heap.size, 2, none⟩ (.slice (some ⟨g, 0, none⟩) L.length c2) = w3 at *
    obtain ⟨g', he, _, hgs, hcell, hst⟩ := O3.out.cells hp
    obtain rfl : g = g' := by simpa using he
    clear he
    have hg1 : ¬ g = W.heap.size := by omega
    have hg2 : ¬ W.heap.size = g := by omega
    have hg3 : ¬ g = W.heap.size + 1 := by omega
    have hg4 : ¬ W.heap.size + 1 = g := by omega
    have HQ := Lib.hid (show SpL W P x L (.slice (some ⟨g, 0, none⟩) L.length c2) w3 from ⟨C3.out, Z3.out, O3.out, B3.out⟩)
    have hgB2 := Lib.hid hgB
    obtain ⟨e40, e41⟩ := e4
    obtain ⟨N, hN⟩ : ∃ N, L.length = N := ⟨_, rfl⟩
    have HI := Lib.hid (show ∃ L' : List Int, L'.length = N ∧ SpL W P x L' (.slice (some ⟨g, 0, none⟩) N c2) w3 from ⟨L, hN, by have := HQ.out; rw [hN] at this; exact this⟩)
    rw [hN] at hp hq ⊢
    clear hcell hst C3 Z3 O3 B3 HQ hj hjl hL0 hN m5 e5 m2 e2 m1 e1 hgs
    go_loopw [6] (fun i wr => ∃ k : Nat, k ≤ N ∧ i = .int .i64 (k : Int) ∧ Hid (∃ L' : List Int, L'.length = N ∧ SpL W P x L' (.slice (some ⟨g, 0, none⟩) N c2) wr)) (fun i _ => N - (intOf i).toNat)
    case atStart => exact ⟨0, by omega, rfl, HI⟩
    case round =>
      clear HI
      obtain ⟨k, hk, rfl, HI⟩ := hrel
      obtain ⟨L', hL', hS⟩ := HI.out
      have HS := Lib.hid hS
      obtain ⟨⟨⟨p0, p1, p2⟩, f0, f1, f2⟩, ⟨⟨q0, q1, q2⟩, g0, g1, g2⟩, ho, hb⟩ := hS
      have hNI : (N : Int) ≤ 1000 := by omega
      have hmn : -9223372036854775808 ≤ min (40 + p32) (65 - P) ∧ min (40 + p32) (65 - P) ≤ 9223372036854775807 := by omega
      by_cases hlt : k < N
      · obtain ⟨g', he, _, hgs, hcell, _⟩ := ho.cells (by omega)
        obtain rfl : g = g' := by simpa using he
        obtain ⟨hc1, hc2⟩ := hcell k (by omega)
        have HX := Lib.hid (SpL.store HS.out (by omega) hgB2.out k _ hmn)
        have HL := Lib.hid (show (L'.set k (min (40 + p32) (65 - P))).length = N by rw [List.length_set]; exact hL')
        have hkI : (k : Int) < (N : Int) := by omega
        clear hcell he ho hb hmn
        go_wp2
        go_roundw
        case rel => exact ⟨k + 1, by omega, by go_num, Lib.hid ⟨_, HL.out, HX.out⟩⟩
        case measure => simp [intOf]; omega
      · obtain rfl : k = N := by omega
        clear ho hb hmn
        go_wp2
        refine bodyPost_ret (v := .agg #[.int .i64 P, .int .u64 x, .slice (some ⟨g, 0, none⟩) k c2]) (by simp [results, Tryd.results16, go_sem, *]) rfl ⟨⟨P, x, L'⟩, _, rfl, HC.out, ⟨_, _, _, rfl, ?_⟩, ?_⟩
        · exact (HS.out.2.2.1.keep3 (by omega) _ _ _).rd
        · exact bset3 HS.out.2.2.2 _ (by omega) _ _ _
  · go_enter Tryd.func16, Tryd.ntmps16
    go_wp2_with (at_builtin; refine wp_appI rfl _ _ _ rfl (W.heap.size + 2) [] L _ _ rfl rfl (OwnI.empty _ _) HR.out.src (by simp) (by simp; omega) ?_; intro u w2 ho2 hb2; rw [List.nil_append] at ho2; have B2 := Lib.hid (B0.out.trans (hb2.mono (by omega))); have C2 := Lib.hid (C0.out.below hb2 (by omega)); have Z2 := Lib.hid (Z0.out.below hb2 (by omega)); obtain ⟨⟨p0, p1, p2⟩, f0, f1, f2⟩ := C2.out; obtain ⟨⟨q0, q1, q2⟩, g0, g1, g2⟩ := Z2.out; have hs2 : W.heap.size + 1 < w2.heap.size := block_lt_of_cell q0; have O2 := Lib.hid ho2; obtain ⟨a2, c2, hv2⟩ := ho2.rd.shape; subst hv2; clear ho2 hb2 HR)
    refine bodyPost_ret (v := .agg #[.int .i64 P, .int .u64 x, .slice a2 L.length c2]) (by simp [results, Tryd.results16, go_sem, *]) rfl ⟨⟨P, x, L⟩, _, rfl, HC.out, ⟨_, _, _, rfl, ?_⟩, ?_⟩
    · exact ((O2.out.keep (show W.heap.size < W.heap.size + 2 by omega) _ _).keep3 (by omega) _ _ _).rd
    · exact bset3 (bset B2.out _ _ _ (Nat.le_refl _)) _ (by omega) _ _ _
end Go.Proofs.YtgnopnifdiipkaaDoor
