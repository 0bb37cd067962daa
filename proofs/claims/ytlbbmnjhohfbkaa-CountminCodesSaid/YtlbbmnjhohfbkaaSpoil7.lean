/- The contract of sketchstorelaw7.spoil. -/
import Derived.Test.YtlbbmnjhohfbkaaOffI
import Derived.Test.YtlbbmnjhohfbkaaMeet
import Derived.Deep.RegionLaw
namespace Go.Proofs.Ytlbbmnjhohfbkaa
open Go.RowKit
set_option linter.unusedVariables false
set_option linter.unusedSimpArgs false
theorem mask5 (n : Int) : bits .and .i64 n 31 = n % 32 := i64_mask 5 (by decide) n
theorem mask7 (n : Int) : bits .and .i64 n 127 = n % 128 := i64_mask 7 (by decide) n
theorem OwnI.oneAt {c : Int} (hc : -9223372036854775808 ≤ c ∧ c ≤ 9223372036854775807) (w : World) {k : Nat} (hk : w.heap.size = k) : OwnI k [c] (.slice (some ⟨k, 0, none⟩) 1 1) (w.alloc (.cells #[.int .i64 c] 3)) := by
  subst hk
  exact OwnI.one hc w
/-- The struct to be spoilt, the result's struct, the cells. -/
def SpSt (W : World) (D S x : Int) (s : Bool) (L : List Int) (u : Value) (w : World) : Prop :=
  CSt W.heap.size D S x u s w ∧ CSt (W.heap.size + 1) 0 0 0 (.slice none 0 0) false w ∧ OwnI (W.heap.size + 2) L u w ∧ Below W.heap.size W w
theorem SpSt.drewN {W : World} {D S x : Int} {s : Bool} {L : List Int} {u : Value} {w : World} (h : SpSt W D S x s L u w) (j : Nat) : SpSt W D S x s L u (w.drewN j) := ⟨h.1, h.2.1, h.2.2.1, below_drewN h.2.2.2 j⟩
theorem SpSt.store {W : World} {D S x : Int} {s : Bool} {L : List Int} {g n cap : Nat} {w : World} (h : SpSt W D S x s L (.slice (some ⟨g, 0, none⟩) n cap) w) (hp : 0 < L.length) (hg : W.heap.size + 2 ≤ g) (o : Obj) (j : Nat) (c : Int) (hc : -9223372036854775808 ≤ c ∧ c ≤ 9223372036854775807) :
    SpSt W D S x s (L.set j c) (.slice (some ⟨g, 0, none⟩) n cap) ((w.setCell ⟨g, j, none⟩ (.int .i64 c)).alloc o).drew := by
  obtain ⟨h1, h2, h3, h4⟩ := h
  have z1 := block_lt_of_cell h1.1.1
  have z2 := block_lt_of_cell h2.1.1
  obtain ⟨g', he, _, _, _, hst⟩ := h3.cells hp
  obtain rfl : g = g' := by simpa using he
  have z3 : (w.setCell ⟨g, j, none⟩ (.int .i64 c)).heap.size = w.heap.size := by simp
  have r1 : CSt W.heap.size D S x (.slice (some ⟨g, 0, none⟩) n cap) s ((w.setCell ⟨g, j, none⟩ (.int .i64 c)).alloc o) := (h1.far (show W.heap.size ≠ g by omega) j (.int .i64 c)).below (b1 o) (by omega)
  have r2 : CSt (W.heap.size + 1) 0 0 0 (.slice none 0 0) false ((w.setCell ⟨g, j, none⟩ (.int .i64 c)).alloc o) := (h2.far (show W.heap.size + 1 ≠ g by omega) j (.int .i64 c)).below (b1 o) (by omega)
  have r4 : Below W.heap.size W ((w.setCell ⟨g, j, none⟩ (.int .i64 c)).alloc o) := bal (bset h4 g j (.int .i64 c) (by omega)) o
  exact ⟨r1, r2, (hst j c hc).alloc o, below_drewN r4 1⟩
/-- Some sketch that can be read. -/
def AnyC (w : World) (e : Ending) (w' : World) : Prop := ∃ c u, e = .returned u ∧ WfC c ∧ RdC c u w' ∧ Below w.heap.size w w'
set_option maxRecDepth 100000 in
set_option maxHeartbeats 4000000 in
theorem spoil_any (c : CM) (v : Value) (n : Int) (W : World) (hc : WfC c) (hv : RdC c v W) (hp : 0 < c.L.length) (hq : c.L.length ≤ 1000) (n0 : -9223372036854775808 ≤ n) (n1 : n ≤ 9223372036854775807) :
    Calls Try.prog 16 #[v, .int .i64 n] W (AnyC W) := by
  obtain ⟨D, S, x, L, s⟩ := c
  obtain ⟨a, ln, cap, rfl, hR⟩ := hv
  dsimp only at hR hp hq ⊢
  have HC := Lib.hid hc
  have m1 := mask3 n
  have m2 := mask4 (n / 8)
  have m3 := mask7 (n / 8)
  have m4 := mask5 (n / 8)
  have m5 := mask2 (n / 8 / 32)
  have e1 : 0 ≤ n % 8 ∧ n % 8 ≤ 7 := by omega
  have e2 : 0 ≤ n / 8 % 16 ∧ n / 8 % 16 ≤ 15 := by omega
  have e3 : 0 ≤ n / 8 % 128 ∧ n / 8 % 128 ≤ 127 := by omega
  have e4 : 0 ≤ n / 8 % 32 ∧ n / 8 % 32 ≤ 31 := by omega
  have e5 : 0 ≤ n / 8 / 32 % 4 ∧ n / 8 / 32 % 4 ≤ 3 := by omega
  have hL0 : (L.length : Int) ≠ 0 := by omega
  obtain ⟨j, hj⟩ : ∃ j : Nat, n / 8 % 32 % (L.length : Int) = (j : Int) := ⟨(n / 8 % 32 % (L.length : Int)).toNat, by have := Int.emod_nonneg (n / 8 % 32) hL0; omega⟩
  have hjl : j < L.length := by have := Int.emod_lt_of_pos (n / 8 % 32) (show (0 : Int) < L.length by omega); omega
  generalize n % 8 = r at *
  generalize n / 8 / 32 % 4 = t at *
  generalize n / 8 % 16 = p16 at *
  generalize n / 8 % 128 = p128 at *
  generalize n / 8 % 32 = p32 at *
  have HR := Lib.hid (hR.below (b2 (.cells #[.int .i64 D, .int .i64 S, .int .u64 x, .slice a ln cap, .bool s] 26) (.cells #[.int .i64 0, .int .i64 0, .int .u64 0, .slice none 0 0, .bool false] 26)))
  have C0 := Lib.hid (show CSt W.heap.size D S x (.slice a ln cap) s ((W.alloc (.cells #[.int .i64 D, .int .i64 S, .int .u64 x, .slice a ln cap, .bool s] 26)).alloc (.cells #[.int .i64 0, .int .i64 0, .int .u64 0, .slice none 0 0, .bool false] 26)) from (CSt.new _ _ _ _ _ _ _).below (b1 _) (by simp))
  have Z0 := Lib.hid (show CSt (W.heap.size + 1) 0 0 0 (.slice none 0 0) false ((W.alloc (.cells #[.int .i64 D, .int .i64 S, .int .u64 x, .slice a ln cap, .bool s] 26)).alloc (.cells #[.int .i64 0, .int .i64 0, .int .u64 0, .slice none 0 0, .bool false] 26)) from by
    have := CSt.new 0 0 0 (.slice none 0 0) false 26 (W.alloc (.cells #[.int .i64 D, .int .i64 S, .int .u64 x, .slice a ln cap, .bool s] 26))
    rwa [show (W.alloc (.cells #[.int .i64 D, .int .i64 S, .int .u64 x, .slice a ln cap, .bool s] 26)).heap.size = W.heap.size + 1 by simp] at this)
  have B0 := Lib.hid (b2 (a := W) (.cells #[.int .i64 D, .int .i64 S, .int .u64 x, .slice a ln cap, .bool s] 26) (.cells #[.int .i64 0, .int .i64 0, .int .u64 0, .slice none 0 0, .bool false] 26))
  clear hR hc
  have hr5 : r = 0 ∨ r = 1 ∨ r = 2 ∨ r = 3 ∨ ((r == 0) = false ∧ (r == 1) = false ∧ (r == 2) = false ∧ (r == 3) = false) := by
    simp only [beq_eq_false_iff_ne, ne_eq]
    omega
  rcases hr5 with rfl | rfl | rfl | rfl | ⟨r0, r1, r2, r3⟩
  · go_enter Try.func16, Try.ntmps16
    go_wp2_with (at_builtin; refine wp_appI rfl _ _ _ rfl (W.heap.size + 2) [] L _ _ rfl rfl (OwnI.empty _ _) HR.out.src (by simp) (by simp; omega) ?_; intro u w2 ho2 hb2; rw [List.nil_append] at ho2; have B2 := Lib.hid (B0.out.trans (hb2.mono (by omega))); have C2 := Lib.hid (C0.out.below hb2 (by omega)); have Z2 := Lib.hid (Z0.out.below hb2 (by omega)); obtain ⟨⟨p0, p1, p2, p3, p4⟩, f0, f1, f2, f3, f4⟩ := C2.out; obtain ⟨⟨q0, q1, q2, q3, q4⟩, g0, g1, g2, g3, g4⟩ := Z2.out; have hs2 : W.heap.size + 1 < w2.heap.size := block_lt_of_cell q0; have O2 := Lib.hid ho2; obtain ⟨a2, c2, hv2⟩ := ho2.rd.shape; subst hv2; clear ho2 hb2 HR)
    refine bodyPost_ret (v := .agg #[.int .i64 (p16 - 2), .int .i64 S, .int .u64 x, .slice a2 L.length c2, .bool s]) (by simp [results, Try.results16, go_sem, *]) rfl ⟨⟨(p16 - 2), S, x, L, s⟩, _, rfl, ⟨by dsimp only; omega, HC.out.2⟩, ⟨_, _, _, rfl, ?_⟩, ?_⟩
    · exact (((O2.out.keep (show W.heap.size < W.heap.size + 2 by omega) _ _).keep (show W.heap.size < W.heap.size + 2 by omega) _ _).keep5 (by omega) _ _ _ _ _).rd
    · exact bset5 (bset (bset B2.out _ _ _ (Nat.le_refl _)) _ _ _ (Nat.le_refl _)) _ (by omega) _ _ _ _ _
  · go_enter Try.func16, Try.ntmps16
    go_wp2_with (at_builtin; refine wp_appI rfl _ _ _ rfl (W.heap.size + 2) [] L _ _ rfl rfl (OwnI.empty _ _) HR.out.src (by simp) (by simp; omega) ?_; intro u w2 ho2 hb2; rw [List.nil_append] at ho2; have B2 := Lib.hid (B0.out.trans (hb2.mono (by omega))); have C2 := Lib.hid (C0.out.below hb2 (by omega)); have Z2 := Lib.hid (Z0.out.below hb2 (by omega)); obtain ⟨⟨p0, p1, p2, p3, p4⟩, f0, f1, f2, f3, f4⟩ := C2.out; obtain ⟨⟨q0, q1, q2, q3, q4⟩, g0, g1, g2, g3, g4⟩ := Z2.out; have hs2 : W.heap.size + 1 < w2.heap.size := block_lt_of_cell q0; have O2 := Lib.hid ho2; obtain ⟨a2, c2, hv2⟩ := ho2.rd.shape; subst hv2; clear ho2 hb2 HR)
    refine bodyPost_ret (v := .agg #[.int .i64 D, .int .i64 p128, .int .u64 x, .slice a2 L.length c2, .bool s]) (by simp [results, Try.results16, go_sem, *]) rfl ⟨⟨D, p128, x, L, s⟩, _, rfl, ⟨HC.out.1, by dsimp only; omega, HC.out.2.2⟩, ⟨_, _, _, rfl, ?_⟩, ?_⟩
    · exact (((O2.out.keep (show W.heap.size < W.heap.size + 2 by omega) _ _).keep (show W.heap.size < W.heap.size + 2 by omega) _ _).keep5 (by omega) _ _ _ _ _).rd
    · exact bset5 (bset (bset B2.out _ _ _ (Nat.le_refl _)) _ _ _ (Nat.le_refl _)) _ (by omega) _ _ _ _ _
  · go_enter Try.func16, Try.ntmps16
    go_wp2_with (first
      | (at_builtin; refine wp_appI rfl _ _ _ rfl (W.heap.size + 2) [] L _ _ rfl rfl (OwnI.empty _ _) HR.out.src (by simp) (by simp; omega) ?_; intro u w2 ho2 hb2; rw [List.nil_append] at ho2; have B2 := Lib.hid (B0.out.trans (hb2.mono (by omega))); have C2 := Lib.hid (C0.out.below hb2 (by omega)); have Z2 := Lib.hid (Z0.out.below hb2 (by omega)); obtain ⟨⟨p0, p1, p2, p3, p4⟩, f0, f1, f2, f3, f4⟩ := C2.out; obtain ⟨⟨q0, q1, q2, q3, q4⟩, g0, g1, g2, g3, g4⟩ := Z2.out; have hs2 : W.heap.size + 1 < w2.heap.size := block_lt_of_cell q0; have O2 := Lib.hid ho2; obtain ⟨a2, c2, hv2⟩ := ho2.rd.shape; subst hv2; clear ho2 hb2 HR)
      | (at_builtin; refine wp_appI rfl _ _ _ rfl (W.heap.size + 2) L [0] _ _ rfl rfl ((O2.out.keep (show W.heap.size < W.heap.size + 2 by omega) _ _).alloc _) (OwnI.oneAt (by omega) (w2.setCell ⟨W.heap.size, 3, none⟩ (.slice a2 L.length c2)) (by simp)).rd.src (by simp; omega) (by simp; omega) ?_; intro u w3 ho3 hb3; have B3 := Lib.hid ((bal (bset B2.out _ _ _ (Nat.le_refl _)) _).trans (hb3.mono (by omega))); have C3 := Lib.hid (((C2.out.setV (.slice a2 L.length c2)).below (b1 _) (by simp; omega)).below hb3 (by omega)); have Z3 := Lib.hid (((Z2.out.far (show W.heap.size + 1 ≠ W.heap.size by omega) _ _).below (b1 _) (by simp; omega)).below hb3 (by omega)); clear p0 p1 p2 p3 p4 f0 f1 f2 f3 f4 q0 q1 q2 q3 q4 g0 g1 g2 g3 g4; obtain ⟨⟨p0, p1, p2, p3, p4⟩, f0, f1, f2, f3, f4⟩ := C3.out; obtain ⟨⟨q0, q1, q2, q3, q4⟩, g0, g1, g2, g3, g4⟩ := Z3.out; have O3 := Lib.hid ho3; obtain ⟨a3, n3, c3, hv3⟩ : ∃ a n c, u = .slice a n c := ho3.rd.shape.elim fun a h => h.elim fun c h => ⟨a, _, c, h⟩; subst hv3; clear ho3 hb3))
    refine bodyPost_ret (v := .agg #[.int .i64 D, .int .i64 S, .int .u64 x, .slice a3 n3 c3, .bool s]) (by simp [results, Try.results16, go_sem, *]) rfl ⟨⟨D, S, x, (L ++ [0]), s⟩, _, rfl, HC.out, ⟨_, _, _, rfl, ?_⟩, ?_⟩
    · exact ((O3.out.keep (show W.heap.size < W.heap.size + 2 by omega) _ _).keep5 (by omega) _ _ _ _ _).rd
    · exact bset5 (bset B3.out _ _ _ (Nat.le_refl _)) _ (by omega) _ _ _ _ _
  · obtain ⟨tn, rfl⟩ : ∃ tn : Nat, t = (tn : Int) := ⟨t.toNat, by omega⟩
    have ht3 : tn ≤ 3 := by omega
    have htI0 : (0 : Int) ≤ (tn : Int) := by omega
    have htI1 : (tn : Int) < 4 := by omega
    obtain ⟨y, hyb, hT⟩ : ∃ y : Int, (-9223372036854775808 ≤ y ∧ y ≤ 9223372036854775807) ∧ [Value.int .i64 (-1), .int .i64 4294967295, .int .i64 4294967296, .int .i64 4294967293][tn]? = some (.int .i64 y) := by
      match tn, ht3 with
      | 0, _ => exact ⟨_, by decide, rfl⟩
      | 1, _ => exact ⟨_, by decide, rfl⟩
      | 2, _ => exact ⟨_, by decide, rfl⟩
      | 3, _ => exact ⟨_, by decide, rfl⟩
    go_enter Try.func16, Try.ntmps16
    go_wp2_with (at_builtin; refine wp_appI rfl _ _ _ rfl (W.heap.size + 2) [] L _ _ rfl rfl (OwnI.empty _ _) HR.out.src (by simp) (by simp; omega) ?_; intro u w2 ho2 hb2; rw [List.nil_append] at ho2; have B2 := Lib.hid (B0.out.trans (hb2.mono (by omega))); have C2 := Lib.hid (C0.out.below hb2 (by omega)); have Z2 := Lib.hid (Z0.out.below hb2 (by omega)); obtain ⟨⟨p0, p1, p2, p3, p4⟩, f0, f1, f2, f3, f4⟩ := C2.out; obtain ⟨⟨q0, q1, q2, q3, q4⟩, g0, g1, g2, g3, g4⟩ := Z2.out; have hs2 : W.heap.size + 1 < w2.heap.size := block_lt_of_cell q0; have O2 := Lib.hid ho2; obtain ⟨a2, c2, hv2⟩ := ho2.rd.shape; subst hv2; clear ho2 hb2 HR)
    obtain ⟨g, rfl, hgB, hgs, hcell, hst⟩ := O2.out.cells hp
    have B3 := Lib.hid (bset B2.out W.heap.size 3 (.slice (some ⟨g, 0, none⟩) L.length c2) (Nat.le_refl _))
    have C3 := Lib.hid (C2.out.setV (.slice (some ⟨g, 0, none⟩) L.length c2))
    have Z3 := Lib.hid (Z2.out.far (show W.heap.size + 1 ≠ W.heap.size by omega) 3 (.slice (some ⟨g, 0, none⟩) L.length c2))
    have O3 := Lib.hid (O2.out.keep (show W.heap.size < W.heap.size + 2 by omega) 3 (.slice (some ⟨g, 0, none⟩) L.length c2))
    clear hcell hst C2 Z2 C0 Z0 B0 B2 O2 p0 p1 p2 p3 p4 f0 f1 f2 f3 f4 q0 q1 q2 q3 q4 g0 g1 g2 g3 g4 hgs hs2
    generalize w2.setCell ⟨W.heap.size, 3, none⟩ (.slice (some ⟨g, 0, none⟩) L.length c2) = w3 at *
    obtain ⟨g', he, _, hgs, hcell, hst⟩ := O3.out.cells hp
    obtain rfl : g = g' := by simpa using he
    clear he
    have hj1 := (hcell j hjl).1
    have hj2 := (hcell j hjl).2
    have hg1 : ¬ g = W.heap.size := by omega
    have hg2 : ¬ W.heap.size = g := by omega
    have hg3 : ¬ g = W.heap.size + 1 := by omega
    have hg4 : ¬ W.heap.size + 1 = g := by omega
    clear hcell hst
    obtain ⟨⟨p0, p1, p2, p3, p4⟩, f0, f1, f2, f3, f4⟩ := C3.out
    obtain ⟨⟨q0, q1, q2, q3, q4⟩, g0, g1, g2, g3, g4⟩ := Z3.out
    have hz0 : ((L.length : Int) == 0) = false := beq_eq_false_iff_ne.2 hL0
    have hjI0 : (0 : Int) ≤ (j : Int) := by omega
    have hjI1 : (j : Int) < (L.length : Int) := by omega
    have hpL := Lib.hid hp
    have hlm : ∃ m, L.length = m := ⟨_, rfl⟩
    obtain ⟨m, hlm⟩ := hlm
    simp only [hlm] at hp hq hL0 hj hjl O3 p3 hz0 hjI1 C3 ⊢
    clear hlm
    obtain ⟨e40, e41⟩ := e4
    have hm0 : ¬ m = 0 := by omega
    have hjt : p32.tmod (m : Int) = (j : Int) := by rw [Int.tmod_eq_emod_of_nonneg e40, hj]
    have hmI : (m : Int) ≤ 1000 := by omega
    have hne1 := World.new_ne w3 _ p3
    have hne2 := World.new_ne w3 _ hj1
    have hz1 : W.heap.size < w3.heap.size := block_lt_of_cell p3
    have HQ := Lib.hid (show SpSt W D S x s L (.slice (some ⟨g, 0, none⟩) m c2) w3 from ⟨C3.out, Z3.out, O3.out, B3.out⟩)
    have hgB2 := hgB
    clear C3 Z3 O3 B3
    go_wp2
    refine wp_meet 34 15 (fun wx => ∃ c', Hid (SpSt W D S x s (L.set j c') (.slice (some ⟨g, 0, none⟩) m c2) wx)) ?_ ?_
    · intro G hG
      go_region_law (fail)
      all_goals exact hG _ _ ⟨[_, _, _, _, _, _, _, _, _, _, _, _, _, _, _], rfl, rfl⟩ ⟨_, Lib.hid (SpSt.store HQ.out hpL.out hgB2 _ _ _ hyb)⟩
    · clear HQ p0 p1 p2 p3 p4 f0 f1 f2 f3 f4 q0 q1 q2 q3 q4 g0 g1 g2 g3 g4 hne1 hne2 hz1 hj1 hj2
      intro a' wz hoff hX
      obtain ⟨us, hus, rfl⟩ := hoff
      obtain ⟨c', HX⟩ := hX
      match us, hus with
      | [u0, u1, u2, u3, u4, u5, u6, u7, u8, u9, u10, u11, u12, u13, u14], _ =>
        simp only [List.take_succ_cons, List.take_zero, List.drop_succ_cons, List.drop_zero, List.cons_append, List.nil_append]
        obtain ⟨⟨⟨p0, p1, p2, p3, p4⟩, _⟩, ⟨⟨q0, q1, q2, q3, q4⟩, g0, g1, g2, g3, g4⟩, _, _⟩ := HX.out
        go_wp2
        refine bodyPost_ret (v := .agg #[.int .i64 D, .int .i64 S, .int .u64 x, .slice (some ⟨g, 0, none⟩) m c2, .bool s]) (by simp [results, Try.results16, go_sem, *]) rfl ⟨⟨D, S, x, L.set j c', s⟩, _, rfl, HC.out, ⟨_, _, _, rfl, ?_⟩, ?_⟩
        · exact (HX.out.2.2.1.keep5 (by omega) _ _ _ _ _).rd
        · exact bset5 HX.out.2.2.2 _ (by omega) _ _ _ _ _
  · go_enter Try.func16, Try.ntmps16
    go_wp2_with (at_builtin; refine wp_appI rfl _ _ _ rfl (W.heap.size + 2) [] L _ _ rfl rfl (OwnI.empty _ _) HR.out.src (by simp) (by simp; omega) ?_; intro u w2 ho2 hb2; rw [List.nil_append] at ho2; have B2 := Lib.hid (B0.out.trans (hb2.mono (by omega))); have C2 := Lib.hid (C0.out.below hb2 (by omega)); have Z2 := Lib.hid (Z0.out.below hb2 (by omega)); obtain ⟨⟨p0, p1, p2, p3, p4⟩, f0, f1, f2, f3, f4⟩ := C2.out; obtain ⟨⟨q0, q1, q2, q3, q4⟩, g0, g1, g2, g3, g4⟩ := Z2.out; have hs2 : W.heap.size + 1 < w2.heap.size := block_lt_of_cell q0; have O2 := Lib.hid ho2; obtain ⟨a2, c2, hv2⟩ := ho2.rd.shape; subst hv2; clear ho2 hb2 HR)
    refine bodyPost_ret (v := .agg #[.int .i64 D, .int .i64 S, .int .u64 x, .slice a2 L.length c2, .bool s]) (by simp [results, Try.results16, go_sem, *]) rfl ⟨⟨D, S, x, L, s⟩, _, rfl, HC.out, ⟨_, _, _, rfl, ?_⟩, ?_⟩
    · exact ((O2.out.keep (show W.heap.size < W.heap.size + 2 by omega) _ _).keep5 (by omega) _ _ _ _ _).rd
    · exact bset5 (bset B2.out _ _ _ (Nat.le_refl _)) _ (by omega) _ _ _ _ _
end Go.Proofs.Ytlbbmnjhohfbkaa
