/- The contract of the reference's MergeLogLog. -/
import Derived.Test.YtgnopnifdiipkaaDoorRLIns
namespace Go.Proofs.YtgnopnifdiipkaaDoor
open Go.RowKit
set_option linter.unusedVariables false
set_option linter.unusedSimpArgs false
/-- The blocks of a merge: two sketches, the result. -/
def LM (h : Nat) (P x : Int) (v : Value) (Q y : Int) (u : Value) (w : World) : Prop := LSt h P x v w ∧ LSt (h + 1) Q y u w ∧ LSt (h + 2) 0 0 (.slice none 0 0) w
theorem LM.keep {h : Nat} {P x : Int} {v : Value} {Q y : Int} {u : Value} {w w' : World} (hm : LM h P x v Q y u w) (hb : ∀ b, b < h + 3 → w'.heap[b]? = w.heap[b]?) : LM h P x v Q y u w' :=
  ⟨hm.1.keep (hb _ (by omega)), hm.2.1.keep (hb _ (by omega)), hm.2.2.keep (hb _ (by omega))⟩
theorem LM.below {h B : Nat} {P x : Int} {v : Value} {Q y : Int} {u : Value} {w w' : World} (hm : LM h P x v Q y u w) (hb : Below B w w') (hB : h + 2 < B) : LM h P x v Q y u w' := hm.keep fun b hb' => hb.block b (by omega)
theorem LM.drewN {h : Nat} {P x : Int} {v : Value} {Q y : Int} {u : Value} {w : World} (hm : LM h P x v Q y u w) (j : Nat) : LM h P x v Q y u (w.drewN j) := hm
theorem LM.new (P x : Int) (v : Value) (Q y : Int) (u : Value) (t : TypeId) (w : World) :
    LM w.heap.size P x v Q y u (((w.alloc (.cells #[.int .i64 P, .int .u64 x, v] t)).alloc (.cells #[.int .i64 Q, .int .u64 y, u] t)).alloc (.cells #[.int .i64 0, .int .u64 0, .slice none 0 0] t)) := by
  have hz : ∀ (w : World) o, (w.alloc o).heap.size = w.heap.size + 1 := fun w o => by simp
  refine ⟨((LSt.new P x v t w).below (b1 _) (by simp)).below (b1 _) (by simp; omega), ?_, ?_⟩
  · have h := LSt.new Q y u t (w.alloc (.cells #[.int .i64 P, .int .u64 x, v] t))
    rw [hz] at h
    exact h.below (b1 _) (by simp)
  · have h := LSt.new 0 0 (.slice none 0 0) t ((w.alloc (.cells #[.int .i64 P, .int .u64 x, v] t)).alloc (.cells #[.int .i64 Q, .int .u64 y, u] t))
    rw [hz, hz] at h
    exact h
/-- The loop of a merge, k registers done. -/
def LMer (W : World) (h g : Nat) (P x : Int) (v : Value) (Q y : Int) (u : Value) (A M : List Int) (k : Nat) (r : Value) (w : World) : Prop :=
  LM h P x v Q y u w ∧ LSt g P x r w ∧ OwnI (g + 1) (maxL A M k) r w ∧ Below h W w
theorem LMer.step {W : World} {h g : Nat} {P x : Int} {v : Value} {Q y : Int} {u : Value} {A M : List Int} {k : Nat} {w : World} {r : Value} {a : Option Addr} {n c : Nat} (hm : LM h P x v Q y u w) (hg : LSt g P x r w) {K : List Int} (ho : OwnI (g + 1) K (.slice a n c) w) (hb : Below h W w) (hh : h + 2 < g) (hK : maxL A M (k + 1) = K) :
    LMer W h g P x v Q y u A M (k + 1) (.slice a n c) (w.setCell ⟨g, 2, none⟩ (.slice a n c)) := by
  subst hK
  exact ⟨⟨hm.1.far (by omega) _ _, hm.2.1.far (by omega) _ _, hm.2.2.far (by omega) _ _⟩, hg.setV _, ho.keep (by omega) _ _, hb.setCell (p := ⟨g, 2, none⟩) (show h ≤ g by omega) _⟩
set_option maxRecDepth 100000 in
set_option maxHeartbeats 4000000 in
theorem rlmer_any (c d : LL) (v u : Value) (w : World) (hv : RdL c v w) (hu : RdL d u w) :
    Calls Tryd.prog 24 #[v, u] w fun e w' =>
      ∃ r, e = .returned (.tuple #[r, .int .i64 (llMerE c d)]) ∧ OwnL w.heap.size (llMer c d) r w' ∧ Below w.heap.size w w' := by
  obtain ⟨P, x, A⟩ := c
  obtain ⟨Q, y, M⟩ := d
  obtain ⟨a, n, cap, rfl, hR⟩ := hv
  obtain ⟨a', n', cap', rfl, hR2⟩ := hu
  dsimp only at hR hR2 ⊢
  have h1 := fun (w' : World) (hb : Below w.heap.size w w') => rlval_any P x A a n cap w' (hR.below hb)
  have h2 := fun (w' : World) (hb : Below w.heap.size w w') => rlval_any Q y M a' n' cap' w' (hR2.below hb)
  have M0 := Lib.hid (LM.new P x (.slice a n cap) Q y (.slice a' n' cap') 26 w)
  have HB0 := Lib.hid (b3 (a := w) (.cells #[.int .i64 P, .int .u64 x, .slice a n cap] 26) (.cells #[.int .i64 Q, .int .u64 y, .slice a' n' cap'] 26) (.cells #[.int .i64 0, .int .u64 0, .slice none 0 0] 26))
  unfold llMer llMerE
  dsimp only
  by_cases hE : llE P A = 0
  · rw [if_neg (show ¬ llE P A ≠ 0 by simp [hE])]
    have hok := llE_ok hE
    rw [hE] at h1
    by_cases hF : llE Q M = 0
    · rw [if_neg (show ¬ llE Q M ≠ 0 by simp [hF])]
      have hok2 := llE_ok hF
      rw [hF] at h2
      by_cases hD : P ≠ Q ∨ x ≠ y
      · rw [if_pos hD, if_pos (by decide)]
        have hd : (P != Q) = true ∨ ((P != Q) = false ∧ (x != y) = true) := by
          by_cases hq : P = Q
          · exact .inr ⟨by simp [hq], by rcases hD with h | h; exact absurd hq h; simpa using h⟩
          · exact .inl (by simpa using hq)
        clear hE hF hok hok2 hD
        rcases hd with hd | ⟨hd, hd'⟩
        all_goals
          go_enter Tryd.func24, Tryd.ntmps24
          go_wp2_with (first
            | (go_at_call 22; (with_reducible refine (h1 _ HB0.out).mono ?_); rintro e w2 ⟨rfl, hb2⟩; have B2 := Lib.hid (bgo HB0.out hb2); have M2 := Lib.hid (M0.out.below hb2 (by simp)); obtain ⟨⟨⟨q0, q1, q2⟩, -⟩, ⟨⟨p0, p1, p2⟩, -⟩, ⟨r0, r1, r2⟩, g0, g1, g2⟩ := M2.out; have L2 := Lib.hid (show w.heap.size + 3 ≤ w2.heap.size by have := hb2.size; simp at this; omega); clear hb2 M0 HB0 h1)
            | (go_at_call 22; (with_reducible refine (h2 _ B2.out).mono ?_); rintro e w3 ⟨rfl, hb3⟩; have B3 := Lib.hid (bgo B2.out hb3); have M3 := Lib.hid (M2.out.below hb3 (by have := L2.out; omega)); clear q0 q1 q2 p0 p1 p2 r0 r1 r2 g0 g1 g2; obtain ⟨⟨⟨q0, q1, q2⟩, -⟩, ⟨⟨p0, p1, p2⟩, -⟩, ⟨r0, r1, r2⟩, g0, g1, g2⟩ := M3.out; clear hb3 h2 B2 M2 L2))
          refine bodyPost_ret (v := .tuple #[.agg #[.int .i64 0, .int .u64 0, .slice none 0 0], .int .i64 10]) (by simp [results, Tryd.results24, go_sem, *]) rfl ⟨_, rfl, noneL_own _ _, ?_⟩
          exact bset3 B3.out _ (by omega) _ _ _
      · obtain ⟨rfl, rfl⟩ : P = Q ∧ x = y := by
          constructor
          · exact Decidable.byContradiction fun h => hD (.inl h)
          · exact Decidable.byContradiction fun h => hD (.inr h)
        rw [if_neg hD, if_neg (by simp)]
        obtain ⟨⟨P0, P1⟩, l1, g1⟩ := hok
        obtain ⟨-, l2, g2⟩ := hok2
        have hN := llN_bd ⟨P0, P1⟩
        have hAM : M.length = A.length := by omega
        have hA : 4 ≤ A.length ∧ A.length ≤ 256 := by omega
        obtain ⟨hA0, hA1⟩ := hA
        have HR := Lib.hid hR
        have HR2 := Lib.hid hR2
        obtain ⟨a8, cap8, he⟩ := hR.shape
        simp only [Value.slice.injEq] at he
        obtain ⟨rfl, rfl, rfl⟩ := he
        obtain ⟨a8, cap8, he⟩ := hR2.shape
        simp only [Value.slice.injEq] at he
        obtain ⟨rfl, rfl, rfl⟩ := he
        have HAM := Lib.hid hAM
        clear hE hF hD l1 g1 l2 g2 hN hAM hR hR2
        go_enter Tryd.func24, Tryd.ntmps24
        go_wp2_with (first
          | (go_at_call 22; (with_reducible refine (h1 _ HB0.out).mono ?_); rintro e w2 ⟨rfl, hb2⟩; have B2 := Lib.hid (bgo HB0.out hb2); have M2 := Lib.hid (M0.out.below hb2 (by simp)); obtain ⟨⟨⟨q0, q1, q2⟩, -⟩, ⟨⟨p0, p1, p2⟩, -⟩, -⟩ := M2.out; have L2 := Lib.hid (show w.heap.size + 3 ≤ w2.heap.size by have := hb2.size; simp at this; omega); clear hb2 M0 HB0 h1)
          | (go_at_call 22; (with_reducible refine (h2 _ B2.out).mono ?_); rintro e w3 ⟨rfl, hb3⟩; have B3 := Lib.hid (bgo B2.out hb3); have M3 := Lib.hid (M2.out.below hb3 (by have := L2.out; omega)); have HG := Lib.hid (show w.heap.size + 2 < w3.heap.size by have := hb3.size; have := L2.out; omega); clear q0 q1 q2 p0 p1 p2; obtain ⟨⟨⟨q0, q1, q2⟩, -⟩, ⟨⟨p0, p1, p2⟩, -⟩, -⟩ := M3.out; clear hb3 h2 B2 M2 L2))
        have HI := Lib.hid (show LMer w w.heap.size w3.heap.size P x (.slice a A.length cap) P x (.slice a' M.length cap') A M 0 (.slice none 0 0) (w3.alloc (.cells #[.int .i64 P, .int .u64 x, .slice none 0 0] 26)) from ⟨M3.out.below (b1 _) (by have := HG.out; omega), LSt.new _ _ _ _ _, OwnI.empty _ _, bal B3.out _⟩)
        clear q0 q1 q2 p0 p1 p2 M3 B3
        go_loopw [9] (fun i wr => ∃ k : Nat, k ≤ A.length ∧ i = .int .i64 (k : Int) ∧ ∃ v, Hid (LMer w w.heap.size w3.heap.size P x (.slice a A.length cap) P x (.slice a' M.length cap') A M k v wr)) (fun i _ => A.length - (intOf i).toNat)
        case atStart => exact ⟨0, by omega, rfl, _, HI⟩
        case round =>
          clear HI
          obtain ⟨k, hk, rfl, v, HI⟩ := hrel
          obtain ⟨hm, hc, ho, hb⟩ := HI.out
          obtain ⟨⟨⟨q0, q1, q2⟩, -⟩, ⟨⟨p0, p1, p2⟩, -⟩, ⟨r0, r1, r2⟩, fr0, fr1, fr2⟩ := hm
          obtain ⟨⟨c0, c1, c2⟩, f0, f1, f2⟩ := hc
          have HO := Lib.hid ho
          have HB := Lib.hid hb
          have HM := Lib.hid HI.out.1
          have HC := Lib.hid HI.out.2.1
          have hal : (A.length : Int) ≤ 256 := by omega
          obtain ⟨av, nv, cv, hvv⟩ : ∃ av nv cv, v = .slice av nv cv := by
            obtain ⟨a', c', h'⟩ := HO.out.rd.shape
            exact ⟨_, _, _, h'⟩
          subst hvv
          by_cases hlt : k < A.length
          · have hz := HR.out.at_ k
            have hy := HR2.out.at_ k
            obtain ⟨_, a5, cap5, he5, _, _, hc5⟩ := HR.out.below hb
            simp only [Value.slice.injEq, true_and] at he5
            obtain ⟨rfl, rfl⟩ := he5
            obtain ⟨b5, off5, rfl, hb5, hcell5⟩ := hc5 (by omega)
            have hcc5 := hcell5 k hlt
            obtain ⟨_, a6, cap6, he6, _, _, hc6⟩ := HR2.out.below hb
            simp only [Value.slice.injEq, true_and] at he6
            obtain ⟨rfl, rfl⟩ := he6
            obtain ⟨b6, off6, rfl, hb6, hcell6⟩ := hc6 (by have := HAM.out; omega)
            have hcc6 := hcell6 k (by have := HAM.out; omega)
            have hkM : (k : Int) < (M.length : Int) := by have := HAM.out; omega
            have hkA : (k : Int) < (A.length : Int) := by omega
            have hk0 : (0 : Int) ≤ (k : Int) := by omega
            have hkM2 : (M.length : Int) ≤ 256 := by have := HAM.out; omega
            have HSU := Lib.hid (maxL_succ A M k)
            have hmx : -9223372036854775808 ≤ max (A.getD k 0) (M.getD k 0) ∧ max (A.getD k 0) (M.getD k 0) ≤ 9223372036854775807 := by omega
            have HLM := Lib.hid (maxL_len A M k)
            clear hcell5 hc5 hcell6 hc6 ho hb
            obtain ⟨K, hK⟩ : ∃ K, maxL A M k = K := ⟨_, rfl⟩
            rw [hK] at HO HSU HLM
            clear hK
            generalize A.getD k 0 = z1 at *
            generalize M.getD k 0 = z2 at *
            have hgs := HI.out.2.1.size
            have HN1 : Hid (∀ j, FromI [max z1 z2] 24 (.slice (some ⟨wr.heap.size, 0, none⟩) 1 1) ((wr.drewN j).alloc (.cells #[.int .i64 (max z1 z2)] 3))) := Lib.hid (fun j => (OwnI.one (c := max z1 z2) hmx (wr.drewN j)).rd.src)
            clear hz hy hmx hb5 hb6 r0 r1 r2 fr0 fr1 fr2 f0 f1
            go_wp2
            refine wp_meet 40 23 (fun wx => ∃ v', Hid (LMer w w.heap.size w3.heap.size P x (.slice (some ⟨b5, off5, none⟩) A.length cap) P x (.slice (some ⟨b6, off6, none⟩) M.length cap') A M (k + 1) v' wx)) ?_ ?_
            · intro G hG
              go_region_law (first
                | (refine step_appI rfl _ _ _ rfl (w3.heap.size + 1) K [max z1 z2] _ _ rfl rfl ?_ ?_ ?_ ?_ ?_; (exact OwnI.alloc (OwnI.drewN HO.out _) _); (exact HN1.out _); (exact Nat.le_trans hgs (b1 _).size); (have := HLM.out; simp; omega); (intro v7 w7 ho7 hb7; have HM7 := Lib.hid (((LM.drewN HM.out _).below (b1 _) (show w.heap.size + 2 < wr.heap.size by have := HG.out; omega)).below hb7 (show w.heap.size + 2 < w3.heap.size + 1 by have := HG.out; omega)); have HC7 := Lib.hid (((LSt.drewM HC.out _).below (b1 _) hgs).below hb7 (Nat.lt_succ_self _)); have HB7 := Lib.hid ((Below.alloc (below_drewN HB.out _) (show w.heap.size ≤ wr.heap.size by have := HG.out; omega) _).trans (hb7.mono (show w.heap.size ≤ w3.heap.size + 1 by have := HG.out; omega))); have HO7 := Lib.hid ho7; obtain ⟨a7, n7, cp7, hv7⟩ : ∃ a n c, v7 = .slice a n c := ho7.rd.shape.elim fun a h => h.elim fun c h => ⟨a, _, c, h⟩; subst hv7; obtain ⟨⟨d0, d1, d2⟩, e0, e1, e2⟩ := HC7.out; clear hb7 ho7)))
              all_goals exact hG _ _ ⟨[_, _, _, _, _, _, _, _, _, _, _, _, _, _, _, _, _, _, _, _, _, _, _], rfl, rfl⟩ ⟨_, Lib.hid (LMer.step HM7.out HC7.out HO7.out HB7.out HG.out HSU.out)⟩
            · clear HI HM HC HO HB HSU HN1
              intro a' wz hoff hR
              obtain ⟨us, hus, rfl⟩ := hoff
              obtain ⟨v', HX⟩ := hR
              match us, hus with
              | [u0, u1, u2, u3, u4, u5, u6, u7, u8, u9, u10, u11, u12, u13, u14, u15, u16, u17, u18, u19, u20, u21, u22], _ =>
                simp only [List.take_succ_cons, List.take_zero, List.drop_succ_cons, List.drop_zero, List.cons_append, List.nil_append]
                go_wp2
                go_roundw
                case rel => exact ⟨k + 1, by omega, by go_num, _, HX⟩
                case measure => simp [intOf]; omega
          · obtain rfl : k = A.length := by omega
            clear ho hb
            go_wp2
            refine bodyPost_ret (v := .tuple #[.agg #[.int .i64 P, .int .u64 x, .slice av nv cv], .int .i64 0]) (by simp [results, Tryd.results24, go_sem, *]) rfl ⟨_, rfl, ⟨_, _, _, rfl, ?_⟩, ?_⟩
            · exact (HO.out.keep3 (by have := HG.out; omega) _ _ _).mono (by have := HG.out; omega)
            · exact bset3 HB.out _ (by omega) _ _ _
    · rw [if_pos (show llE Q M ≠ 0 from hF), if_pos (show llE Q M ≠ 0 from hF)]
      have hF2 : (llE Q M != 0) = true := by simpa using hF
      generalize llE Q M = E at *
      clear hF hE hok
      go_enter Tryd.func24, Tryd.ntmps24
      go_wp2_with (first
        | (go_at_call 22; (with_reducible refine (h1 _ HB0.out).mono ?_); rintro e w2 ⟨rfl, hb2⟩; have B2 := Lib.hid (bgo HB0.out hb2); have M2 := Lib.hid (M0.out.below hb2 (by simp)); obtain ⟨-, ⟨⟨p0, p1, p2⟩, -⟩, -⟩ := M2.out; have L2 := Lib.hid (show w.heap.size + 3 ≤ w2.heap.size by have := hb2.size; simp at this; omega); clear hb2 M0 HB0 h1)
        | (go_at_call 22; (with_reducible refine (h2 _ B2.out).mono ?_); rintro e w3 ⟨rfl, hb3⟩; have B3 := Lib.hid (bgo B2.out hb3); have M3 := Lib.hid (M2.out.below hb3 (by have := L2.out; omega)); clear p0 p1 p2; obtain ⟨-, -, ⟨r0, r1, r2⟩, g0, g1, g2⟩ := M3.out; clear hb3 h2 B2 M2 L2))
      refine bodyPost_ret (v := .tuple #[.agg #[.int .i64 0, .int .u64 0, .slice none 0 0], .int .i64 E]) (by simp [results, Tryd.results24, go_sem, *]) rfl ⟨_, rfl, noneL_own _ _, ?_⟩
      exact bset3 B3.out _ (by omega) _ _ _
  · rw [if_pos (show llE P A ≠ 0 from hE), if_pos (show llE P A ≠ 0 from hE)]
    have hE2 : (llE P A != 0) = true := by simpa using hE
    generalize llE P A = E at *
    clear hE h2
    go_enter Tryd.func24, Tryd.ntmps24
    go_wp2_with (first
      | (go_at_call 22; (with_reducible refine (h1 _ HB0.out).mono ?_); rintro e w2 ⟨rfl, hb2⟩; have B2 := Lib.hid (bgo HB0.out hb2); have M2 := Lib.hid (M0.out.below hb2 (by simp)); obtain ⟨-, -, ⟨r0, r1, r2⟩, g0, g1, g2⟩ := M2.out; clear hb2 M0 h1))
    refine bodyPost_ret (v := .tuple #[.agg #[.int .i64 0, .int .u64 0, .slice none 0 0], .int .i64 E]) (by simp [results, Tryd.results24, go_sem, *]) rfl ⟨_, rfl, noneL_own _ _, ?_⟩
    exact bset3 B2.out _ (by omega) _ _ _
end Go.Proofs.YtgnopnifdiipkaaDoor
