/- The contract of the reference's MergeCountMin. -/
import Derived.Test.YtlbbmnjhohfbkaaCmMer
import Derived.Test.YtlbbmnjhohfbkaaRCmIns
import Derived.Test.YtlbbmnjhohfbkaaMeet
namespace Go.Proofs.Ytlbbmnjhohfbkaa
open Go.RowKit
set_option linter.unusedVariables false
set_option linter.unusedSimpArgs false
theorem MerM.far {h : Nat} {D S x : Int} {v : Value} {s : Bool} {E T y : Int} {u : Value} {t : Bool} {w : World} (hm : MerM h D S x v s E T y u t w) {b : Nat} (hb : h + 2 < b) (o : Nat) (r : Value) : MerM h D S x v s E T y u t (w.setCell ⟨b, o, none⟩ r) :=
  ⟨hm.1.far (by omega) _ _, hm.2.1.far (by omega) _ _, hm.2.2.far (by omega) _ _⟩
theorem CSt.drewN {g : Nat} {D S x : Int} {v : Value} {s : Bool} {w : World} (h : CSt g D S x v s w) (j : Nat) : CSt g D S x v s (w.drewN j) := h
theorem MerM.drewN {h : Nat} {D S x : Int} {v : Value} {s : Bool} {E T y : Int} {u : Value} {t : Bool} {w : World} (hm : MerM h D S x v s E T y u t w) (j : Nat) : MerM h D S x v s E T y u t (w.drewN j) := hm
/-- The state of a merge behind k cells: the new sketch lies in block g. -/
def RMer (W : World) (h g : Nat) (D S x : Int) (va : Value) (s : Bool) (vb : Value) (t f : Bool) (A M : List Int) (k : Nat) (v : Value) (w : World) : Prop :=
  MerM h D S x va s D S x vb t w ∧ CSt g D S x v (merF A M f k) w ∧ OwnI (g + 1) (merL A M k) v w ∧ Below h W w
theorem RMer.step {W : World} {h g : Nat} {D S x : Int} {va : Value} {s : Bool} {vb : Value} {t f mf F : Bool} {A M L : List Int} {k : Nat} {v : Value} {Z : Int} {w : World} (hm : MerM h D S x va s D S x vb t w) (hc : CSt g D S x v mf w) {u : Value} (hu : u.oneCell' = true) (ho : OwnI (g + 1) (L ++ [Z]) u w) (hb : Below h W w) (hg : h + 2 < g)
    (h1 : merL A M (k + 1) = L ++ [Z]) (h2 : merF A M f (k + 1) = F) : RMer W h g D S x va s vb t f A M (k + 1) u ((w.setCell ⟨g, 3, none⟩ u).setCell ⟨g, 4, none⟩ (.bool F)) :=
  ⟨(hm.far hg _ _).far hg _ _, by rw [h2]; exact (hc.setV u hu).setS F, by rw [h1]; exact (ho.keep (Nat.lt_succ_self _) _ _).keep (Nat.lt_succ_self _) _ _, (hb.setCell (p := ⟨g, 3, none⟩) (show h ≤ g by omega) _).setCell (p := ⟨g, 4, none⟩) (show h ≤ g by omega) _⟩
theorem RMer.size {W : World} {h g : Nat} {D S x : Int} {va : Value} {s : Bool} {vb : Value} {t f : Bool} {A M : List Int} {k : Nat} {v : Value} {w : World} (hl : RMer W h g D S x va s vb t f A M k v w) : g < w.heap.size := block_lt_of_cell hl.2.1.1.1
set_option maxRecDepth 100000 in
set_option maxHeartbeats 4000000 in
theorem rcmer_t (D S x : Int) (A M : List Int) (t : Bool) (a a2 : Option Addr) (n cap n2 cap2 : Nat) (w : World) (D0 : -9223372036854775808 ≤ D) (D1 : D ≤ 9223372036854775807) (S0 : -9223372036854775808 ≤ S) (S1 : S ≤ 9223372036854775807) (x0 : 0 ≤ x) (x1 : x ≤ 18446744073709551615)
    (hE : cmE D S A = 0) (hF : cmE D S M = 0) (hR : RdI A (.slice a n cap) w) (hR2 : RdI M (.slice a2 n2 cap2) w) :
    Calls Try.prog 24 #[.agg #[.int .i64 D, .int .i64 S, .int .u64 x, .slice a n cap, .bool true], .agg #[.int .i64 D, .int .i64 S, .int .u64 x, .slice a2 n2 cap2, .bool t]] w fun e w' =>
      ∃ r, e = .returned (.tuple #[r, .int .i64 0]) ∧ OwnC w.heap.size ⟨D, S, x, merL A M M.length, merF A M true M.length⟩ r w' ∧ Below w.heap.size w w' := by
  have h1 := fun (w' : World) (hb : Below w.heap.size w w') => rcval_any D S x A a n cap true w' D0 D1 S0 S1 (hR.below hb)
  have h2 := fun (w' : World) (hb : Below w.heap.size w w') => rcval_any D S x M a2 n2 cap2 t w' D0 D1 S0 S1 (hR2.below hb)
  have M0 := Lib.hid (MerM.new D S x (.slice a n cap) true D S x (.slice a2 n2 cap2) t 26 w)
  have HB0 := Lib.hid (b3 (a := w) (.cells #[.int .i64 D, .int .i64 S, .int .u64 x, .slice a n cap, .bool true] 26) (.cells #[.int .i64 D, .int .i64 S, .int .u64 x, .slice a2 n2 cap2, .bool t] 26) (.cells #[.int .i64 0, .int .i64 0, .int .u64 0, .slice none 0 0, .bool false] 26))
  have hok := cmE_ok hE
  have hok2 := cmE_ok hF
  rw [hE] at h1
  rw [hF] at h2
  obtain ⟨⟨o1, o2, o3, o4⟩, o5, o6⟩ := hok
  obtain ⟨_, o7, o8⟩ := hok2
  have hNS : 1 * 1 ≤ D * S := Int.mul_le_mul o1 o3 (by omega) (by omega)
  have hNS2 : D * S ≤ 8 * 64 := Int.mul_le_mul o2 o4 (by omega) (by omega)
  have hlen : 1 ≤ A.length ∧ A.length ≤ 512 := by omega
  have HAM := Lib.hid (show A.length = M.length by omega)
  clear hE hF o5 o7 hNS hNS2
  go_enter Try.func24, Try.ntmps24
  go_wp2_with (first
    | (go_at_call 22; (with_reducible refine (h1 _ HB0.out).mono ?_); rintro e w2 ⟨rfl, hb2⟩; have B2 := Lib.hid (bgo HB0.out hb2); have M2 := Lib.hid (M0.out.below hb2 (by simp)); have L2 := Lib.hid (show w.heap.size + 3 ≤ w2.heap.size by have := hb2.size; simp at this; omega); obtain ⟨⟨⟨q20, q21, q22, q23, q24⟩, f20, f21, f22, f23, f24⟩, ⟨⟨p20, p21, p22, p23, p24⟩, _⟩, _⟩ := M2.out; clear hb2 h1)
    | (go_at_call 22; (with_reducible refine (h2 _ B2.out).mono ?_); rintro e w3 ⟨rfl, hb3⟩; have B3 := Lib.hid (bgo B2.out hb3); have M3 := Lib.hid (M2.out.below hb3 (by have := L2.out; omega)); have L3 := Lib.hid (Nat.le_trans L2.out hb3.size); obtain ⟨⟨⟨q30, q31, q32, q33, q34⟩, f30, f31, f32, f33, f34⟩, ⟨⟨p30, p31, p32, p33, p34⟩, _⟩, _⟩ := M3.out; clear hb3))
  have HI := Lib.hid (show RMer w w.heap.size w3.heap.size D S x (.slice a n cap) true (.slice a2 n2 cap2) t true A M 0 (.slice none 0 0) (w3.alloc (.cells #[.int .i64 D, .int .i64 S, .int .u64 x, .slice none 0 0, .bool true] 26)) from
    ⟨M3.out.below (b1 _) (by have := L3.out; omega), CSt.new _ _ _ _ _ _ _, OwnI.empty _ _, bal B3.out _⟩)
  have HG := Lib.hid L3.out
  have HR := Lib.hid hR
  have HR2 := Lib.hid hR2
  obtain ⟨a1', cap1', he1⟩ := hR.shape
  simp only [Value.slice.injEq] at he1
  obtain ⟨rfl, rfl, rfl⟩ := he1
  obtain ⟨a2', cap2', he2⟩ := hR2.shape
  simp only [Value.slice.injEq] at he2
  obtain ⟨rfl, rfl, rfl⟩ := he2
  clear q20 q21 q22 q23 q24 f20 f21 f22 f23 f24 p20 p21 p22 p23 p24 q30 q31 q32 q33 q34 f30 f31 f32 f33 f34 p30 p31 p32 p33 p34
  clear M0 M2 M3 L2 L3 B2 B3 HB0 h2 hR hR2
  go_loopw [9, 10, 11] (fun i _ _ wr => ∃ k : Nat, k ≤ A.length ∧ i = .int .i64 (k : Int) ∧ ∃ v, Hid (RMer w w.heap.size w3.heap.size D S x (.slice a A.length cap) true (.slice a2 M.length cap2) t true A M k v wr)) (fun i _ _ _ => A.length - (intOf i).toNat)
  case atStart => exact ⟨0, by omega, rfl, _, HI⟩
  case round =>
    clear HI
    obtain ⟨k, hk, rfl, v, HI⟩ := hrel
    obtain ⟨⟨⟨⟨q0, q1, q2, q3, q4⟩, _⟩, ⟨⟨p0, p1, p2, p3, p4⟩, _⟩, ⟨r0, r1, r2, r3, r4⟩, fr0, fr1, fr2, fr3, fr4⟩, ⟨⟨c0, c1, c2, c3, c4⟩, f0, f1, f2, f3, f4⟩, ho, hb⟩ := HI.out
    have HO := Lib.hid ho
    have HB := Lib.hid hb
    have HM := Lib.hid HI.out.1
    have HC := Lib.hid HI.out.2.1
    have hal : (A.length : Int) ≤ 512 := by omega
    by_cases hlt : k < A.length
    · have hz := HR.out.at_ k
      have hy := HR2.out.at_ k
      have hra := fun w => radd_count (A.getD k 0) (M.getD k 0) w hz.1 hz.2 hy.1 hy.2
      obtain ⟨_, a5, cap5, he5, _, _, hc5⟩ := HR.out.below hb
      simp only [Value.slice.injEq, true_and] at he5
      obtain ⟨rfl, rfl⟩ := he5
      obtain ⟨b5, off5, rfl, hb5, hcell5⟩ := hc5 (by omega)
      have hcc5 := hcell5 k hlt
      obtain ⟨_, a6, cap6, he6, _, _, hc6⟩ := HR2.out.below hb
      simp only [Value.slice.injEq, true_and] at he6
      obtain ⟨rfl, rfl⟩ := he6
      obtain ⟨b6, off6, rfl, hb6, hcell6⟩ := hc6 (by have := HAM.out; omega)
      have hcc6 := hcell6 k (by have := HAM.out; omega)
      have hkM : (k : Int) < (M.length : Int) := by have := HAM.out; omega
      have hkM2 : (M.length : Int) ≤ 512 := by have := HAM.out; omega
      have HSU := Lib.hid (merL_succ A M k)
      have HSF2 : Hid (merF A M true (k + 1) = (merF A M true k || sumF (A.getD k 0) (M.getD k 0))) := Lib.hid rfl
      have hsb := sumT_bd (A.getD k 0) (M.getD k 0)
      have HLM := Lib.hid (merL_len A M k)
      clear hcell5 hc5 hcell6 hc6 ho hb
      obtain ⟨L, hL⟩ : ∃ L, merL A M k = L := ⟨_, rfl⟩
      rw [hL] at HO HSU HLM
      clear hL
      generalize A.getD k 0 = z1 at *
      generalize M.getD k 0 = z2 at *
      generalize sumT z1 z2 = Z at *
      generalize sumF z1 z2 = F at *
      obtain ⟨av, nv, cv, hvv⟩ : ∃ av nv cv, v = .slice av nv cv := by
        obtain ⟨a', c', h'⟩ := HO.out.rd.shape
        exact ⟨_, _, _, h'⟩
      subst hvv
      go_wp2
      go_quiet ((go_at_call 51; exact quiet_left (hra _)))
      generalize merF A M true k = mf at *
      have hgs := HI.out.size
      have HN1 : Hid (∀ j, FromI [Z] 24 (.slice (some ⟨wr.heap.size, 0, none⟩) 1 1) ((wr.drewN j).alloc (.cells #[.int .i64 Z] 3))) := Lib.hid (fun j => (OwnI.one (c := Z) (by omega) (wr.drewN j)).rd.src)
      clear q0 q1 q2 q3 q4 p0 p1 p2 p3 p4 r0 r1 r2 r3 r4 fr0 fr1 fr2 fr3 fr4 hcc5 hcc6 hb5 hb6 hz hy hra c0 c1 c2 f0 f1 f2 D0 D1 S0 S1 x0 x1 o1 o2 o3 o4 o6 o8 hkM hkM2
      go_wp2
      refine wp_meet 78 12 (fun wx => ∃ v', Hid (RMer w w.heap.size w3.heap.size D S x (.slice (some ⟨b5, off5, none⟩) A.length cap) true (.slice (some ⟨b6, off6, none⟩) M.length cap2) t true A M (k + 1) v' wx)) ?_ ?_
      · intro G hG
        cases mf
        · have HA3 : ∀ j, ((wr.drewN j).alloc (.cells #[.int .i64 Z] 3)).cell? ⟨w3.heap.size, 3, none⟩ = some (.slice av nv cv) := fun j => (((CSt.drewN HC.out j).below (b1 _) hgs).1).2.2.2.1
          have HA4 : ∀ j, ((wr.drewN j).alloc (.cells #[.int .i64 Z] 3)).cell? ⟨w3.heap.size, 4, none⟩ = some (.bool false) := fun j => (((CSt.drewN HC.out j).below (b1 (.cells #[.int .i64 Z] 3)) hgs).1).2.2.2.2
          go_region_law (first
            | (refine step_appI rfl _ _ _ rfl (w3.heap.size + 1) L [Z] _ _ rfl rfl ?_ ?_ ?_ ?_ ?_; (exact OwnI.alloc (OwnI.drewN HO.out _) _); (exact HN1.out _); (exact Nat.le_trans hgs (b1 _).size); (have := HLM.out; simp; omega); (intro v7 w7 ho7 hb7; have HC7 := Lib.hid (((CSt.drewN HC.out _).below (b1 _) hgs).below hb7 (Nat.lt_succ_self _)); have HM7 := Lib.hid (((MerM.drewN HM.out _).below (b1 _) (show w.heap.size + 2 < wr.heap.size by have := HG.out; omega)).below hb7 (show w.heap.size + 2 < w3.heap.size + 1 by have := HG.out; omega)); have HB7 := Lib.hid ((Below.alloc (below_drewN HB.out _) (show w.heap.size ≤ wr.heap.size by have := HG.out; omega) _).trans (hb7.mono (show w.heap.size ≤ w3.heap.size + 1 by have := HG.out; omega))); have HO7 := Lib.hid ho7; obtain ⟨a7, n7, cp7, hv7⟩ : ∃ a n c, v7 = .slice a n c := ho7.rd.shape.elim fun a h => h.elim fun c h => ⟨a, _, c, h⟩; subst hv7; obtain ⟨⟨d0, d1, d2, d3, d4⟩, e0, e1, e2, e3, e4⟩ := HC7.out; clear hb7 ho7)))
          all_goals exact hG _ _ ⟨[_, _, _, _, _, _, _, _, _, _, _, _], rfl, rfl⟩ ⟨_, Lib.hid (RMer.step HM7.out HC7.out rfl HO7.out HB7.out (by have := HG.out; omega) HSU.out HSF2.out)⟩
        · have HA3 : ∀ j, ((wr.drewN j).alloc (.cells #[.int .i64 Z] 3)).cell? ⟨w3.heap.size, 3, none⟩ = some (.slice av nv cv) := fun j => (((CSt.drewN HC.out j).below (b1 _) hgs).1).2.2.2.1
          have HA4 : ∀ j, ((wr.drewN j).alloc (.cells #[.int .i64 Z] 3)).cell? ⟨w3.heap.size, 4, none⟩ = some (.bool true) := fun j => (((CSt.drewN HC.out j).below (b1 (.cells #[.int .i64 Z] 3)) hgs).1).2.2.2.2
          first | go_region_law (first
            | (refine step_appI rfl _ _ _ rfl (w3.heap.size + 1) L [Z] _ _ rfl rfl ?_ ?_ ?_ ?_ ?_; (exact OwnI.alloc (OwnI.drewN HO.out _) _); (exact HN1.out _); (exact Nat.le_trans hgs (b1 _).size); (have := HLM.out; simp; omega); (intro v7 w7 ho7 hb7; have HC7 := Lib.hid (((CSt.drewN HC.out _).below (b1 _) hgs).below hb7 (Nat.lt_succ_self _)); have HM7 := Lib.hid (((MerM.drewN HM.out _).below (b1 _) (show w.heap.size + 2 < wr.heap.size by have := HG.out; omega)).below hb7 (show w.heap.size + 2 < w3.heap.size + 1 by have := HG.out; omega)); have HB7 := Lib.hid ((Below.alloc (below_drewN HB.out _) (show w.heap.size ≤ wr.heap.size by have := HG.out; omega) _).trans (hb7.mono (show w.heap.size ≤ w3.heap.size + 1 by have := HG.out; omega))); have HO7 := Lib.hid ho7; obtain ⟨a7, n7, cp7, hv7⟩ : ∃ a n c, v7 = .slice a n c := ho7.rd.shape.elim fun a h => h.elim fun c h => ⟨a, _, c, h⟩; subst hv7; obtain ⟨⟨d0, d1, d2, d3, d4⟩, e0, e1, e2, e3, e4⟩ := HC7.out; clear hb7 ho7))) | fail
          all_goals exact hG _ _ ⟨[_, _, _, _, _, _, _, _, _, _, _, _], rfl, rfl⟩ ⟨_, Lib.hid (RMer.step HM7.out HC7.out rfl HO7.out HB7.out (by have := HG.out; omega) HSU.out HSF2.out)⟩
      · clear HI HM HC HO HB HSU HSF2 HN1
        intro a' wz hoff hR
        obtain ⟨us, hus, rfl⟩ := hoff
        obtain ⟨v', HX⟩ := hR
        match us, hus with
        | [u0, u1, u2, u3, u4, u5, u6, u7, u8, u9, u10, u11], _ =>
          simp only [List.take_succ_cons, List.take_zero, List.drop_succ_cons, List.drop_zero, List.cons_append, List.nil_append]
          go_wp2
          go_roundw
          case rel => exact ⟨k + 1, by omega, by go_num, _, HX⟩
          case measure => simp [intOf]; omega
    · obtain rfl : k = A.length := by omega
      obtain ⟨av, nv, cv, hvv⟩ : ∃ av nv cv, v = .slice av nv cv := by
        obtain ⟨a', c', h'⟩ := HO.out.rd.shape
        exact ⟨_, _, _, h'⟩
      subst hvv
      clear ho hb
      go_wp2
      refine bodyPost_ret (v := .tuple #[.agg #[.int .i64 D, .int .i64 S, .int .u64 x, .slice av nv cv, .bool (merF A M true A.length)], .int .i64 0]) (by simp [results, Try.results24, go_sem, *]) rfl ⟨_, rfl, ⟨_, _, _, by rw [HAM.out], ?_⟩, ?_⟩
      · rw [← HAM.out]
        exact (HO.out.keep5 (by have := HG.out; omega) _ _ _ _ _).mono (by have := HG.out; omega)
      · exact bset5 HB.out _ (by omega) _ _ _ _ _
end Go.Proofs.Ytlbbmnjhohfbkaa
