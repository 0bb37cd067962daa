/- The contract of countmin.Merge. -/
import Derived.Test.YtlbbmnjhohfbkaaCmIns
namespace Go.Proofs.Ytlbbmnjhohfbkaa
open Go.RowKit
set_option linter.unusedVariables false
set_option linter.unusedSimpArgs false
/-- The blocks of a merge: both sketches, the result. -/
def MerM (h : Nat) (D S x : Int) (v : Value) (s : Bool) (E T y : Int) (u : Value) (t : Bool) (w : World) : Prop :=
  CSt h D S x v s w ∧ CSt (h + 1) E T y u t w ∧ CSt (h + 2) 0 0 0 (.slice none 0 0) false w
theorem MerM.below {h B : Nat} {D S x : Int} {v : Value} {s : Bool} {E T y : Int} {u : Value} {t : Bool} {w w' : World} (hm : MerM h D S x v s E T y u t w) (hb : Below B w w') (hB : h + 2 < B) : MerM h D S x v s E T y u t w' :=
  ⟨hm.1.below hb (by omega), hm.2.1.below hb (by omega), hm.2.2.below hb (by omega)⟩
theorem MerM.new (D S x : Int) (v : Value) (s : Bool) (E T y : Int) (u : Value) (t : Bool) (ty : TypeId) (w : World) :
    MerM w.heap.size D S x v s E T y u t (((w.alloc (.cells #[.int .i64 D, .int .i64 S, .int .u64 x, v, .bool s] ty)).alloc (.cells #[.int .i64 E, .int .i64 T, .int .u64 y, u, .bool t] ty)).alloc (.cells #[.int .i64 0, .int .i64 0, .int .u64 0, .slice none 0 0, .bool false] ty)) := by
  have hz : ∀ (w : World) o, (w.alloc o).heap.size = w.heap.size + 1 := fun w o => by simp
  refine ⟨((CSt.new D S x v s ty w).below (b1 _) (by simp)).below (b1 _) (by simp; omega), ?_, ?_⟩
  · have h := CSt.new E T y u t ty (w.alloc (.cells #[.int .i64 D, .int .i64 S, .int .u64 x, v, .bool s] ty))
    rw [hz] at h
    exact h.below (b1 _) (by simp)
  · have h := CSt.new 0 0 0 (.slice none 0 0) false ty ((w.alloc (.cells #[.int .i64 D, .int .i64 S, .int .u64 x, v, .bool s] ty)).alloc (.cells #[.int .i64 E, .int .i64 T, .int .u64 y, u, .bool t] ty))
    rw [hz, hz] at h
    exact h
theorem MerM.setV {h : Nat} {D S x : Int} {v : Value} {s : Bool} {E T y : Int} {u : Value} {t : Bool} {w : World} (hm : MerM h D S x v s E T y u t w) (u' : Value) (hu : u'.oneCell' = true) : MerM h D S x u' s E T y u t (w.setCell ⟨h, 3, none⟩ u') :=
  ⟨hm.1.setV u' hu, hm.2.1.far (by omega) _ _, hm.2.2.far (by omega) _ _⟩
theorem MerM.setS {h : Nat} {D S x : Int} {v : Value} {s : Bool} {E T y : Int} {u : Value} {t : Bool} {w : World} (hm : MerM h D S x v s E T y u t w) (r : Bool) : MerM h D S x v r E T y u t (w.setCell ⟨h, 4, none⟩ (.bool r)) :=
  ⟨hm.1.setS r, hm.2.1.far (by omega) _ _, hm.2.2.far (by omega) _ _⟩
/-- The state of a merge behind k cells. -/
def MerL (W : World) (h B b n cap : Nat) (D S x : Int) (A M : List Int) (s : Bool) (k : Nat) (w : World) : Prop :=
  CSt h D S x (.slice (some ⟨b, 0, none⟩) n cap) (merF A M s k) w ∧ CSt (h + 2) 0 0 0 (.slice none 0 0) false w ∧ OwnI B (merP A M k) (.slice (some ⟨b, 0, none⟩) n cap) w ∧ Below h W w
theorem MerL.drew {W : World} {h B b n cap : Nat} {D S x : Int} {A M : List Int} {s : Bool} {k : Nat} {w : World} (hl : MerL W h B b n cap D S x A M s k w) : MerL W h B b n cap D S x A M s k w.drew :=
  ⟨hl.1, hl.2.1, hl.2.2.1, hl.2.2.2.drew⟩
theorem MerL.raise {W : World} {h B b n cap : Nat} {D S x : Int} {A M : List Int} {s : Bool} {k : Nat} {w : World} (hl : MerL W h B b n cap D S x A M s k w) (hB : h + 3 ≤ B) (hk : k < A.length) (hL : A.length ≤ 512) (hn : n = A.length) (m0 : -9223372036854775808 ≤ M.getD k 0) (m1 : M.getD k 0 ≤ 9223372036854775807) :
    Calls Try.prog 47 #[.pointer (some ⟨h, 0, none⟩), .int .i64 k, .int .i64 (M.getD k 0)] w fun e w' => e = .returned (.tuple #[]) ∧ MerL W h B b n cap D S x A M s (k + 1) w' := by
  obtain ⟨hc, hr, ho, hb⟩ := hl
  have hlen := merP_len (A := A) (B := M) (Nat.le_of_lt hk)
  obtain ⟨g', he, hge, hgs, hcl, hst⟩ := ho.cells (by omega)
  simp only [Option.some.injEq, Addr.mk.injEq, and_true] at he
  subst he
  have hrg := Rng.at_ ho.1 k
  have hc' := hc
  obtain ⟨⟨c0, c1, c2, c3, c4⟩, f0, f1, f2, f3, f4⟩ := hc
  have hh := hcl k (by omega)
  rw [merP_at hk] at hh hrg
  refine (raise_any h b k n cap (A.getD k 0) (M.getD k 0) (merF A M s k) w (by omega) (by omega) hrg.1 hrg.2 m0 m1 c3 c4 f4 hh.1 hh.2 (by omega) (by omega)).mono ?_
  rintro e w' ⟨rfl, rfl⟩
  have hs := hst k (sumT (A.getD k 0) (M.getD k 0)) (by have := sumT_bd (A.getD k 0) (M.getD k 0); omega)
  rw [merP_step hk] at hs
  exact ⟨rfl, (hc'.far (by omega) _ _).setS _, (hr.far (by omega) _ _).far (by omega) _ _, hs.keep (by omega) _ _, (hb.setCell (p := ⟨b, k, none⟩) (show h ≤ b by omega) _).setCell (p := ⟨h, 4, none⟩) (Nat.le_refl _) _⟩
theorem MerL.start {W : World} {h B b n cap : Nat} {D S x : Int} {A M : List Int} {v : Value} {s t : Bool} {y1 y2 y3 : Int} {u : Value} {r : Bool} {w : World} (hm : MerM h D S x v s y1 y2 y3 u r w) (ho : OwnI B A (.slice (some ⟨b, 0, none⟩) n cap) w) (hb : Below h W w) (hB : h + 3 ≤ B) :
    MerL W h B b n cap D S x A M t 0 ((w.setCell ⟨h, 3, none⟩ (.slice (some ⟨b, 0, none⟩) n cap)).setCell ⟨h, 4, none⟩ (.bool t)) := by
  have h2 := (hm.setV (.slice (some ⟨b, 0, none⟩) n cap) rfl).setS t
  refine ⟨h2.1, h2.2.2, ?_, (hb.setCell (p := ⟨h, 3, none⟩) (Nat.le_refl _) _).setCell (p := ⟨h, 4, none⟩) (Nat.le_refl _) _⟩
  rw [show merP A M 0 = A by simp [merP, merL]]
  exact (ho.keep (by omega) _ _).keep (by omega) _ _
set_option maxRecDepth 100000 in
set_option maxHeartbeats 4000000 in
theorem cmer_any (c d : CM) (v u : Value) (w : World) (hc : WfC c) (hd : WfC d) (hv : RdC c v w) (hu : RdC d u w) :
    Calls Try.prog 23 #[v, u] w fun e w' =>
      ∃ r, e = .returned (.tuple #[r, .int .i64 (cmMerE c d)]) ∧ OwnC w.heap.size (cmMer c d) r w' ∧ Below w.heap.size w w' := by
  obtain ⟨D, S, x, A, s⟩ := c
  obtain ⟨E, T, y, M, t⟩ := d
  obtain ⟨⟨D0, D1⟩, ⟨S0, S1⟩, x0, x1⟩ := hc
  obtain ⟨⟨E0, E1⟩, ⟨T0, T1⟩, y0, y1⟩ := hd
  obtain ⟨a, n, cap, rfl, hR⟩ := hv
  obtain ⟨a2, n2, cap2, rfl, hR2⟩ := hu
  dsimp only at D0 D1 S0 S1 x0 x1 hR E0 E1 T0 T1 y0 y1 hR2 ⊢
  have h1 := fun (w' : World) (hb : Below w.heap.size w w') => cval_any D S x A a n cap s w' D0 D1 S0 S1 (hR.below hb)
  have h2 := fun (w' : World) (hb : Below w.heap.size w w') => cval_any E T y M a2 n2 cap2 t w' E0 E1 T0 T1 (hR2.below hb)
  have M0 := Lib.hid (MerM.new D S x (.slice a n cap) s E T y (.slice a2 n2 cap2) t 26 w)
  have HB0 := Lib.hid (b3 (a := w) (.cells #[.int .i64 D, .int .i64 S, .int .u64 x, .slice a n cap, .bool s] 26) (.cells #[.int .i64 E, .int .i64 T, .int .u64 y, .slice a2 n2 cap2, .bool t] 26) (.cells #[.int .i64 0, .int .i64 0, .int .u64 0, .slice none 0 0, .bool false] 26))
  unfold cmMer cmMerE
  dsimp only
  by_cases hE : cmE D S A = 0
  · have hok := cmE_ok hE
    rw [hE] at h1 ⊢
    rw [if_neg (by simp)]
    by_cases hF : cmE E T M = 0
    · have hok2 := cmE_ok hF
      rw [hF] at h2 ⊢
      rw [if_neg (by simp)]
      by_cases hK : D ≠ E ∨ S ≠ T ∨ x ≠ y
      · rw [if_pos hK, if_pos (by simp)]
        clear hE hF hok hok2
        have hK' : (D != E) = true ∨ (D != E) = false ∧ (S != T) = true ∨ (D != E) = false ∧ (S != T) = false ∧ (x != y) = true := by
          simp only [bne_iff_ne, bne_eq_false_iff_eq, ne_eq]
          omega
        clear hK
        rcases hK' with k1 | ⟨k1, k2⟩ | ⟨k1, k2, k3⟩
        all_goals
          go_enter Try.func23, Try.ntmps23
          go_wp2_with (first
            | (go_at_call 21; (with_reducible refine (h1 _ HB0.out).mono ?_); rintro e w2 ⟨rfl, hb2⟩; have B2 := Lib.hid (bgo HB0.out hb2); have M2 := Lib.hid (M0.out.below hb2 (by simp)); have L2 := Lib.hid (show w.heap.size + 3 ≤ w2.heap.size by have := hb2.size; simp at this; omega); obtain ⟨⟨⟨q20, q21, q22, q23, q24⟩, f20, f21, f22, f23, f24⟩, ⟨⟨p20, p21, p22, p23, p24⟩, _⟩, _⟩ := M2.out; clear hb2 h1)
            | (go_at_call 21; (with_reducible refine (h2 _ B2.out).mono ?_); rintro e w3 ⟨rfl, hb3⟩; have B3 := Lib.hid (bgo B2.out hb3); have M3 := Lib.hid (M2.out.below hb3 (by have := L2.out; omega)); obtain ⟨⟨⟨q30, q31, q32, q33, q34⟩, f30, f31, f32, f33, f34⟩, ⟨⟨p30, p31, p32, p33, p34⟩, _⟩, ⟨r30, r31, r32, r33, r34⟩, g30, g31, g32, g33, g34⟩ := M3.out; clear hb3))
          refine bodyPost_ret (v := .tuple #[.agg #[.int .i64 0, .int .i64 0, .int .u64 0, .slice none 0 0, .bool false], .int .i64 10]) (by simp [results, Try.results23, go_sem, *]) rfl ⟨_, rfl, noneC_own _ _, ?_⟩
          exact bset5 B3.out _ (by omega) _ _ _ _ _
      · rw [if_neg hK, if_neg (by simp)]
        have hKK : D = E ∧ S = T ∧ x = y := by omega
        obtain ⟨rfl, rfl, rfl⟩ := hKK
        obtain ⟨⟨o1, o2, o3, o4⟩, o5, o6⟩ := hok
        obtain ⟨_, o7, o8⟩ := hok2
        have hNS : 1 * 1 ≤ D * S := Int.mul_le_mul o1 o3 (by omega) (by omega)
        have hNS2 : D * S ≤ 8 * 64 := Int.mul_le_mul o2 o4 (by omega) (by omega)
        have hlen : 1 ≤ A.length ∧ A.length ≤ 512 := by omega
        have HAM := Lib.hid (show A.length = M.length by omega)
        clear hE hF hK o5 o7 hNS hNS2
        cases s
        · rw [show (false || t) = t from rfl]
          go_enter Try.func23, Try.ntmps23
          go_wp2_with (first
            | (go_at_call 21; (with_reducible refine (h1 _ HB0.out).mono ?_); rintro e w2 ⟨rfl, hb2⟩; have B2 := Lib.hid (bgo HB0.out hb2); have M2 := Lib.hid (M0.out.below hb2 (by simp)); have L2 := Lib.hid (show w.heap.size + 3 ≤ w2.heap.size by have := hb2.size; simp at this; omega); obtain ⟨⟨⟨q20, q21, q22, q23, q24⟩, f20, f21, f22, f23, f24⟩, ⟨⟨p20, p21, p22, p23, p24⟩, _⟩, _⟩ := M2.out; clear hb2 h1)
            | (go_at_call 21; (with_reducible refine (h2 _ B2.out).mono ?_); rintro e w3 ⟨rfl, hb3⟩; have B3 := Lib.hid (bgo B2.out hb3); have M3 := Lib.hid (M2.out.below hb3 (by have := L2.out; omega)); have L3 := Lib.hid (Nat.le_trans L2.out hb3.size); obtain ⟨⟨⟨q30, q31, q32, q33, q34⟩, f30, f31, f32, f33, f34⟩, ⟨⟨p30, p31, p32, p33, p34⟩, _⟩, _⟩ := M3.out; clear hb3)
            | (go_at_call 45; refine (clone_any A a n cap _ (hR.below B3.out) (by omega)).mono ?_; rintro e w4 ⟨v4, rfl, ho4, hb4⟩; have B4 := Lib.hid (bgo B3.out hb4); have M4 := Lib.hid (M3.out.below hb4 (by have := L3.out; omega)); have L4 := Lib.hid (Nat.le_trans L3.out hb4.size); obtain ⟨⟨⟨q40, q41, q42, q43, q44⟩, f40, f41, f42, f43, f44⟩, ⟨⟨p40, p41, p42, p43, p44⟩, _⟩, _⟩ := M4.out; obtain ⟨a4, cap4, rfl⟩ := ho4.rd.shape; obtain ⟨b, rfl, hbB, hbs, _, _⟩ := ho4.cells hlen.1; have HO4 := Lib.hid ho4; have HB4 := Lib.hid (And.intro hbB hbs); clear hb4 ho4 hbB hbs))
          have HI := Lib.hid (MerL.start (M := M) (t := t) M4.out HO4.out B4.out L3.out)
          obtain ⟨B, hBB⟩ : ∃ B, w3.heap.size = B := ⟨_, rfl⟩
          have HB3 := Lib.hid L3.out
          rw [hBB] at HI HB3
          have HR2 := Lib.hid hR2
          obtain ⟨a2', cap2', he2⟩ := hR2.shape
          simp only [Value.slice.injEq] at he2
          obtain ⟨rfl, rfl, rfl⟩ := he2
          clear q20 q21 q22 q23 q24 f20 f21 f22 f23 f24 p20 p21 p22 p23 p24 q30 q31 q32 q33 q34 f30 f31 f32 f33 f34 p30 p31 p32 p33 p34 q40 q41 q42 q43 q44 f40 f41 f42 f43 f44 p40 p41 p42 p43 p44
          clear M0 M2 M3 M4 HO4 HB4 L2 L3 L4 B2 B3 B4 HB0 h2 hR hBB hR2
          go_loopw [8, 9, 56] (fun _ _ i wr => ∃ k : Nat, k ≤ M.length ∧ i = .int .i64 (k : Int) ∧ Hid (MerL w w.heap.size B b A.length cap4 D S x A M t k wr)) (fun _ _ i _ => M.length - (intOf i).toNat)
          case atStart => exact ⟨0, by omega, rfl, HI⟩
          case round =>
            clear HI
            obtain ⟨k, hk, rfl, HI⟩ := hrel
            by_cases hlt : k < M.length
            · have hra := HI.out.raise HB3.out (show k < A.length by have := HAM.out; omega) hlen.2 rfl (HR2.out.at_ k).1 (HR2.out.at_ k).2
              obtain ⟨_, a5, cap5, he5, _, _, hc5⟩ := HR2.out.below HI.out.2.2.2
              simp only [Value.slice.injEq, true_and] at he5
              obtain ⟨rfl, rfl⟩ := he5
              obtain ⟨b2, off, rfl, hb2, hcell⟩ := hc5 (by omega)
              have hcc := hcell k hlt
              have hml : (M.length : Int) ≤ 512 := by have := HAM.out; omega
              clear hcell hc5
              generalize M.getD k 0 = z at *
              go_wp2_with (go_at_call 47; refine hra.mono ?_; rintro e w6 ⟨rfl, h6⟩; have H6 := Lib.hid h6; clear h6)
              go_roundw
              case rel => exact ⟨k + 1, by omega, by go_num, H6⟩
              case measure => simp [intOf]; omega
            · obtain rfl : k = M.length := by omega
              obtain ⟨⟨⟨q0, q1, q2, q3, q4⟩, f0, f1, f2, f3, f4⟩, ⟨⟨r0, r1, r2, r3, r4⟩, g0, g1, g2, g3, g4⟩, hoo, hbb⟩ := HI.out
              rw [merP_all HAM.out] at hoo
              have HO := Lib.hid hoo
              have HBB := Lib.hid hbb
              clear hoo hbb
              go_wp2
              refine bodyPost_ret (v := .tuple #[.agg #[.int .i64 D, .int .i64 S, .int .u64 x, .slice (some ⟨b, 0, none⟩) A.length cap4, .bool (merF A M t M.length)], .int .i64 0]) (by simp [results, Try.results23, go_sem, *]) rfl ⟨_, rfl, ⟨_, _, _, rfl, ?_⟩, ?_⟩
              · exact (HO.out.keep5 (by have := HB3.out; omega) _ _ _ _ _).mono (by have := HB3.out; omega)
              · exact bset5 HBB.out _ (by omega) _ _ _ _ _
        · rw [show (true || t) = true from rfl]
          go_enter Try.func23, Try.ntmps23
          go_wp2_with (first
            | (go_at_call 21; (with_reducible refine (h1 _ HB0.out).mono ?_); rintro e w2 ⟨rfl, hb2⟩; have B2 := Lib.hid (bgo HB0.out hb2); have M2 := Lib.hid (M0.out.below hb2 (by simp)); have L2 := Lib.hid (show w.heap.size + 3 ≤ w2.heap.size by have := hb2.size; simp at this; omega); obtain ⟨⟨⟨q20, q21, q22, q23, q24⟩, f20, f21, f22, f23, f24⟩, ⟨⟨p20, p21, p22, p23, p24⟩, _⟩, _⟩ := M2.out; clear hb2 h1)
            | (go_at_call 21; (with_reducible refine (h2 _ B2.out).mono ?_); rintro e w3 ⟨rfl, hb3⟩; have B3 := Lib.hid (bgo B2.out hb3); have M3 := Lib.hid (M2.out.below hb3 (by have := L2.out; omega)); have L3 := Lib.hid (Nat.le_trans L2.out hb3.size); obtain ⟨⟨⟨q30, q31, q32, q33, q34⟩, f30, f31, f32, f33, f34⟩, ⟨⟨p30, p31, p32, p33, p34⟩, _⟩, _⟩ := M3.out; clear hb3)
            | (go_at_call 45; refine (clone_any A a n cap _ (hR.below B3.out) (by omega)).mono ?_; rintro e w4 ⟨v4, rfl, ho4, hb4⟩; have B4 := Lib.hid (bgo B3.out hb4); have M4 := Lib.hid (M3.out.below hb4 (by have := L3.out; omega)); have L4 := Lib.hid (Nat.le_trans L3.out hb4.size); obtain ⟨⟨⟨q40, q41, q42, q43, q44⟩, f40, f41, f42, f43, f44⟩, ⟨⟨p40, p41, p42, p43, p44⟩, _⟩, _⟩ := M4.out; obtain ⟨a4, cap4, rfl⟩ := ho4.rd.shape; obtain ⟨b, rfl, hbB, hbs, _, _⟩ := ho4.cells hlen.1; have HO4 := Lib.hid ho4; have HB4 := Lib.hid (And.intro hbB hbs); clear hb4 ho4 hbB hbs))
          have HI := Lib.hid (MerL.start (M := M) (t := true) M4.out HO4.out B4.out L3.out)
          obtain ⟨B, hBB⟩ : ∃ B, w3.heap.size = B := ⟨_, rfl⟩
          have HB3 := Lib.hid L3.out
          rw [hBB] at HI HB3
          have HR2 := Lib.hid hR2
          obtain ⟨a2', cap2', he2⟩ := hR2.shape
          simp only [Value.slice.injEq] at he2
          obtain ⟨rfl, rfl, rfl⟩ := he2
          clear q20 q21 q22 q23 q24 f20 f21 f22 f23 f24 p20 p21 p22 p23 p24 q30 q31 q32 q33 q34 f30 f31 f32 f33 f34 p30 p31 p32 p33 p34 q40 q41 q42 q43 q44 f40 f41 f42 f43 f44 p40 p41 p42 p43 p44
          clear M0 M2 M3 M4 HO4 HB4 L2 L3 L4 B2 B3 B4 HB0 h2 hR hBB hR2
          go_loopw [8, 9, 56] (fun _ _ i wr => ∃ k : Nat, k ≤ M.length ∧ i = .int .i64 (k : Int) ∧ Hid (MerL w w.heap.size B b A.length cap4 D S x A M true k wr)) (fun _ _ i _ => M.length - (intOf i).toNat)
          case atStart => exact ⟨0, by omega, rfl, HI⟩
          case round =>
            clear HI
            obtain ⟨k, hk, rfl, HI⟩ := hrel
            by_cases hlt : k < M.length
            · have hra := HI.out.raise HB3.out (show k < A.length by have := HAM.out; omega) hlen.2 rfl (HR2.out.at_ k).1 (HR2.out.at_ k).2
              obtain ⟨_, a5, cap5, he5, _, _, hc5⟩ := HR2.out.below HI.out.2.2.2
              simp only [Value.slice.injEq, true_and] at he5
              obtain ⟨rfl, rfl⟩ := he5
              obtain ⟨b2, off, rfl, hb2, hcell⟩ := hc5 (by omega)
              have hcc := hcell k hlt
              have hml : (M.length : Int) ≤ 512 := by have := HAM.out; omega
              clear hcell hc5
              generalize M.getD k 0 = z at *
              go_wp2_with (go_at_call 47; refine hra.mono ?_; rintro e w6 ⟨rfl, h6⟩; have H6 := Lib.hid h6; clear h6)
              go_roundw
              case rel => exact ⟨k + 1, by omega, by go_num, H6⟩
              case measure => simp [intOf]; omega
            · obtain rfl : k = M.length := by omega
              obtain ⟨⟨⟨q0, q1, q2, q3, q4⟩, f0, f1, f2, f3, f4⟩, ⟨⟨r0, r1, r2, r3, r4⟩, g0, g1, g2, g3, g4⟩, hoo, hbb⟩ := HI.out
              rw [merP_all HAM.out] at hoo
              have HO := Lib.hid hoo
              have HBB := Lib.hid hbb
              clear hoo hbb
              go_wp2
              refine bodyPost_ret (v := .tuple #[.agg #[.int .i64 D, .int .i64 S, .int .u64 x, .slice (some ⟨b, 0, none⟩) A.length cap4, .bool (merF A M true M.length)], .int .i64 0]) (by simp [results, Try.results23, go_sem, *]) rfl ⟨_, rfl, ⟨_, _, _, rfl, ?_⟩, ?_⟩
              · exact (HO.out.keep5 (by have := HB3.out; omega) _ _ _ _ _).mono (by have := HB3.out; omega)
              · exact bset5 HBB.out _ (by omega) _ _ _ _ _
    · rw [if_pos hF, if_pos hF]
      have hF2 : (cmE E T M != 0) = true := by simpa using hF
      generalize cmE E T M = F at *
      clear hF hE hok
      go_enter Try.func23, Try.ntmps23
      go_wp2_with (first
        | (go_at_call 21; (with_reducible refine (h1 _ HB0.out).mono ?_); rintro e w2 ⟨rfl, hb2⟩; have B2 := Lib.hid (bgo HB0.out hb2); have M2 := Lib.hid (M0.out.below hb2 (by simp)); have L2 := Lib.hid (show w.heap.size + 3 ≤ w2.heap.size by have := hb2.size; simp at this; omega); obtain ⟨⟨⟨q20, q21, q22, q23, q24⟩, f20, f21, f22, f23, f24⟩, ⟨⟨p20, p21, p22, p23, p24⟩, _⟩, _⟩ := M2.out; clear hb2 h1)
        | (go_at_call 21; (with_reducible refine (h2 _ B2.out).mono ?_); rintro e w3 ⟨rfl, hb3⟩; have B3 := Lib.hid (bgo B2.out hb3); have M3 := Lib.hid (M2.out.below hb3 (by have := L2.out; omega)); obtain ⟨⟨⟨q30, q31, q32, q33, q34⟩, f30, f31, f32, f33, f34⟩, ⟨⟨p30, p31, p32, p33, p34⟩, _⟩, ⟨r30, r31, r32, r33, r34⟩, g30, g31, g32, g33, g34⟩ := M3.out; clear hb3))
      refine bodyPost_ret (v := .tuple #[.agg #[.int .i64 0, .int .i64 0, .int .u64 0, .slice none 0 0, .bool false], .int .i64 F]) (by simp [results, Try.results23, go_sem, *]) rfl ⟨_, rfl, noneC_own _ _, ?_⟩
      exact bset5 B3.out _ (by omega) _ _ _ _ _
  · rw [if_pos hE]
    have hE2 : (cmE D S A != 0) = true := by simpa using hE
    rw [if_pos hE]
    generalize cmE D S A = F at *
    clear hE
    go_enter Try.func23, Try.ntmps23
    go_wp2_with (go_at_call 21; (with_reducible refine (h1 _ HB0.out).mono ?_); rintro e w2 ⟨rfl, hb2⟩; have B2 := Lib.hid (bgo HB0.out hb2); have M2 := Lib.hid (M0.out.below hb2 (by simp)); obtain ⟨_, _, ⟨r20, r21, r22, r23, r24⟩, g20, g21, g22, g23, g24⟩ := M2.out; clear hb2 h1)
    refine bodyPost_ret (v := .tuple #[.agg #[.int .i64 0, .int .i64 0, .int .u64 0, .slice none 0 0, .bool false], .int .i64 F]) (by simp [results, Try.results23, go_sem, *]) rfl ⟨_, rfl, noneC_own _ _, ?_⟩
    exact bset5 B2.out _ (by omega) _ _ _ _ _
end Go.Proofs.Ytlbbmnjhohfbkaa
