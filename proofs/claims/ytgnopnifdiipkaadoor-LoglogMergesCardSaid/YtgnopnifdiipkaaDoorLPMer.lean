/- The contract of loglog.Merge. -/
import Derived.Test.YtgnopnifdiipkaaDoorLPVal
import Derived.Test.YtgnopnifdiipkaaDoorLPkF
import Derived.Test.YtgnopnifdiipkaaDoorRLMer
namespace Go.Proofs.YtgnopnifdiipkaaDoor
open Go.RowKit
set_option linter.unusedVariables false
set_option linter.unusedSimpArgs false
theorem idx_pk (Z : List Int) (k : Nat) (hk : k < 256) (hl : Z.length = 256) (w : World) : (Instr.index 68 (.agg (pkA Z)) (.int .i64 (k : Int))).run Tryd.prog w = .ok (.int .u8 (Z.getD k 0)) w := by
  have h := pkA_at (Z := Z) (j := k) (by omega)
  have h1 : (k : Int) < 256 := by omega
  simp [Instr.index, run_underlying Tryd.underlying68, asIntOf, go_sem]
  rw [if_pos hk, h]
  simp [List.getD]
theorem LM.oth {h g : Nat} {P x : Int} {v : Value} {Q y : Int} {u : Value} {w w' : World} (hm : LM h P x v Q y u w) (ho : Oth g w w') (hg : h + 2 < g) : LM h P x v Q y u w' := hm.keep fun b hb => ho.2 b (by omega)
/-- The registers of the first, the first k of them merged with those of the second. -/
def mixK (X Y : List Int) (k : Nat) : List Int := maxL X Y k ++ X.drop k
theorem mixK_zero (X Y : List Int) : mixK X Y 0 = X := by simp [mixK, maxL]
theorem mixK_at {X Y : List Int} {k : Nat} (hk : k < X.length) : (mixK X Y k).getD k 0 = X.getD k 0 := by
  unfold mixK
  simp only [List.getD]
  rw [List.getElem?_append_right (by rw [maxL_len]; exact Nat.le_refl _), maxL_len, Nat.sub_self, List.getElem?_drop, Nat.add_zero]
theorem mixK_set {X Y : List Int} {k : Nat} (hk : k < X.length) : (mixK X Y k).set k (max (X.getD k 0) (Y.getD k 0)) = mixK X Y (k + 1) := by
  unfold mixK
  rw [maxL_succ, List.set_append, maxL_len, if_neg (Nat.lt_irrefl _), Nat.sub_self, List.drop_eq_getElem_cons hk, List.set_cons_zero, List.append_assoc]
  rfl
theorem mixK_all {X Y : List Int} {k : Nat} (hk : X.length = k) : mixK X Y k = maxL X Y k := by
  unfold mixK
  rw [List.drop_of_length_le (by omega), List.append_nil]
theorem maxL_take (X Y : List Int) {n k : Nat} (h : n ≤ k) : (maxL X Y k).take n = maxL X Y n := by
  unfold maxL
  rw [← List.map_take, List.take_range, Nat.min_eq_left h]
theorem maxL_cong {X Y X' Y' : List Int} {n : Nat} (h : ∀ j, j < n → X.getD j 0 = X'.getD j 0 ∧ Y.getD j 0 = Y'.getD j 0) : maxL X Y n = maxL X' Y' n := by
  unfold maxL
  refine List.map_congr_left fun j hj => ?_
  obtain ⟨h1, h2⟩ := h j (List.mem_range.1 hj)
  rw [h1, h2]
theorem mer_pad {A M : List Int} (hA : A.length ≤ 256) (hAM : M.length = A.length) : (mixK (padK A A.length) (padK M M.length) 256).take A.length = maxL A M A.length := by
  rw [mixK_all (padK_len (Nat.le_refl _) hA), maxL_take _ _ hA]
  exact maxL_cong fun j hj => ⟨padK_at hj, padK_at (by omega)⟩
set_option maxRecDepth 100000 in
set_option maxHeartbeats 4000000 in
theorem lmer_any (c d : LL) (v u : Value) (w : World) (hv : RdL c v w) (hu : RdL d u w) :
    Calls Tryd.prog 23 #[v, u] w fun e w' =>
      ∃ r, e = .returned (.tuple #[r, .int .i64 (llMerE c d)]) ∧ OwnL w.heap.size (llMer c d) r w' ∧ Below w.heap.size w w' := by
  obtain ⟨P, x, A⟩ := c
  obtain ⟨Q, y, M⟩ := d
  obtain ⟨a, n, cap, rfl, hR⟩ := hv
  obtain ⟨a', n', cap', rfl, hR2⟩ := hu
  dsimp only at hR hR2 ⊢
  have h1 := fun (w' : World) (hb : Below w.heap.size w w') => lval_any P x A a n cap w' (hR.below hb)
  have h2 := fun (w' : World) (hb : Below w.heap.size w w') => lval_any Q y M a' n' cap' w' (hR2.below hb)
  have M0 := Lib.hid (LM.new P x (.slice a n cap) Q y (.slice a' n' cap') 26 w)
  have HB0 := Lib.hid (b3 (a := w) (.cells #[.int .i64 P, .int .u64 x, .slice a n cap] 26) (.cells #[.int .i64 Q, .int .u64 y, .slice a' n' cap'] 26) (.cells #[.int .i64 0, .int .u64 0, .slice none 0 0] 26))
  unfold llMer llMerE
  dsimp only
  by_cases hE : llE P A = 0
  · rw [if_neg (show ¬ llE P A ≠ 0 by simp [hE])]
    have hok := llE_ok hE
    rw [hE] at h1
    by_cases hF : llE Q M = 0
    · rw [if_neg (show ¬ llE Q M ≠ 0 by simp [hF])]
      have hok2 := llE_ok hF
      rw [hF] at h2
      by_cases hD : P ≠ Q ∨ x ≠ y
      · rw [if_pos hD, if_pos (by decide)]
        have hd : (P != Q) = true ∨ ((P != Q) = false ∧ (x != y) = true) := by
          by_cases hq : P = Q
          · exact .inr ⟨by simp [hq], by rcases hD with h | h; exact absurd hq h; simpa using h⟩
          · exact .inl (by simpa using hq)
        clear hE hF hok hok2 hD
        rcases hd with hd | ⟨hd, hd'⟩
        all_goals
          go_enter Tryd.func23, Tryd.ntmps23
          go_wp2_with (first
            | (go_at_call 21; (with_reducible refine (h1 _ HB0.out).mono ?_); rintro e w2 ⟨rfl, hb2⟩; have B2 := Lib.hid (bgo HB0.out hb2); have M2 := Lib.hid (M0.out.below hb2 (by simp)); obtain ⟨⟨⟨q0, q1, q2⟩, -⟩, ⟨⟨p0, p1, p2⟩, -⟩, ⟨r0, r1, r2⟩, g0, g1, g2⟩ := M2.out; have L2 := Lib.hid (show w.heap.size + 3 ≤ w2.heap.size by have := hb2.size; simp at this; omega); clear hb2 M0 HB0 h1)
            | (go_at_call 21; (with_reducible refine (h2 _ B2.out).mono ?_); rintro e w3 ⟨rfl, hb3⟩; have B3 := Lib.hid (bgo B2.out hb3); have M3 := Lib.hid (M2.out.below hb3 (by have := L2.out; omega)); clear q0 q1 q2 p0 p1 p2 r0 r1 r2 g0 g1 g2; obtain ⟨⟨⟨q0, q1, q2⟩, -⟩, ⟨⟨p0, p1, p2⟩, -⟩, ⟨r0, r1, r2⟩, g0, g1, g2⟩ := M3.out; clear hb3 h2 B2 M2 L2))
          refine bodyPost_ret (v := .tuple #[.agg #[.int .i64 0, .int .u64 0, .slice none 0 0], .int .i64 10]) (by simp [results, Tryd.results23, go_sem, *]) rfl ⟨_, rfl, noneL_own _ _, ?_⟩
          exact bset3 B3.out _ (by omega) _ _ _
      · obtain ⟨rfl, rfl⟩ : P = Q ∧ x = y := by
          constructor
          · exact Decidable.byContradiction fun h => hD (.inl h)
          · exact Decidable.byContradiction fun h => hD (.inr h)
        rw [if_neg hD, if_neg (by simp)]
        obtain ⟨⟨P0, P1⟩, l1, g1⟩ := hok
        obtain ⟨-, l2, g2⟩ := hok2
        have hN := llN_bd ⟨P0, P1⟩
        have hAM : M.length = A.length := by omega
        have hA : 4 ≤ A.length ∧ A.length ≤ 256 := by omega
        obtain ⟨hA0, hA1⟩ := hA
        have hrd : ∀ (L : List Int), (∀ n ∈ L, 0 ≤ n ∧ n ≤ 65 - P) → ∀ j, 0 ≤ L.getD j 0 ∧ L.getD j 0 ≤ 255 := fun L hL j => by
          by_cases hj : j < L.length
          · have := hL (L[j]) (List.getElem_mem hj)
            simp only [List.getD, List.getElem?_eq_getElem hj, Option.getD_some]
            omega
          · simp [List.getD, List.getElem?_eq_none (Nat.le_of_not_lt hj)]
        have hpk1 := fun (w' : World) (hb : Below w.heap.size w w') => lpack_any P x A a n cap w' (hR.below hb) hA1 (hrd A g1)
        have hpk2 := fun (w' : World) (hb : Below w.heap.size w w') => lpack_any P x M a' n' cap' w' (hR2.below hb) (by omega) (hrd M g2)
        have HMP := Lib.hid (mer_pad hA1 hAM)
        have HXL := Lib.hid (padK_len (Nat.le_refl A.length) hA1)
        have HXB := Lib.hid (padK_byt (k := A.length) (hrd A g1))
        have HYL := Lib.hid (padK_len (Nat.le_refl M.length) (by omega))
        have HYB := Lib.hid (padK_byt (k := M.length) (hrd M g2))
        have hun := fun g Z (w' : World) (h : PkAt g Z w') => lunpack_any P g Z w' h ⟨P0, P1⟩
        rw [← l1] at hun
        have HUN := Lib.hid hun
        clear hE hF hD l1 g1 l2 g2 hN hAM hR hR2 hun hrd
        generalize padK A A.length = X at *
        generalize padK M M.length = Y at *
        have HZ0 := Lib.hid (mixK_zero X Y)
        have HZS := Lib.hid (fun k (h : k < 256) => mixK_set (X := X) (Y := Y) (k := k) (by rw [HXL.out]; exact h))
        have HZA := Lib.hid (fun k (h : k < 256) => mixK_at (X := X) (Y := Y) (k := k) (by rw [HXL.out]; exact h))
        have HIX := Lib.hid (fun k (h : k < 256) w => idx_pk Y k h HYL.out w)
        go_enter Tryd.func23, Tryd.ntmps23
        go_wp2_with (first
          | (go_at_call 21; (with_reducible refine (h1 _ HB0.out).mono ?_); rintro e w2 ⟨rfl, hb2⟩; have B2 := Lib.hid (bgo HB0.out hb2); have M2 := Lib.hid (M0.out.below hb2 (by simp)); obtain ⟨⟨⟨q0, q1, q2⟩, -⟩, ⟨⟨p0, p1, p2⟩, -⟩, -⟩ := M2.out; have L2 := Lib.hid (show w.heap.size + 3 ≤ w2.heap.size by have := hb2.size; simp at this; omega); clear hb2 M0 HB0 h1)
          | (go_at_call 21; (with_reducible refine (h2 _ B2.out).mono ?_); rintro e w3 ⟨rfl, hb3⟩; have B3 := Lib.hid (bgo B2.out hb3); have M3 := Lib.hid (M2.out.below hb3 (by have := L2.out; omega)); have L3 := Lib.hid (Nat.le_trans L2.out hb3.size); clear q0 q1 q2 p0 p1 p2; obtain ⟨⟨⟨q0, q1, q2⟩, -⟩, ⟨⟨p0, p1, p2⟩, -⟩, -⟩ := M3.out; clear hb3 h2 B2 M2 L2)
          | (go_at_call 44; (with_reducible refine (hpk1 _ B3.out).mono ?_); rintro e w5 ⟨rfl, hb5⟩; have L5 := Lib.hid (Nat.le_trans L3.out hb5.size); have B5 := Lib.hid (bal (bgo B3.out hb5) (.cells Tryd.zeroCells68 68)); have M5 := Lib.hid ((M3.out.below hb5 (by have := L3.out; omega)).below (b1 (.cells Tryd.zeroCells68 68)) (by have := L5.out; omega)); have K5 := Lib.hid (PkAt.new w5); clear q0 q1 q2 p0 p1 p2 hb5 hpk1 M3 B3 L3)
          | (refine wp_store_pk rfl _ _ rfl w5.heap.size rfl K5.out rfl HXB.out HXL.out ?_; intro w6 hk6 ho6; have K6 := Lib.hid hk6; have L5' := L5.out; have B6 := Lib.hid (B5.out.trans (ho6.1.mono (show w.heap.size ≤ w5.heap.size by omega))); have M6 := Lib.hid (M5.out.oth ho6 (by omega)); obtain ⟨⟨⟨q0, q1, q2⟩, -⟩, ⟨⟨p0, p1, p2⟩, -⟩, -⟩ := M6.out; clear L5' hk6 ho6 K5 B5 M5)
          | (go_at_call 44; (with_reducible refine (hpk2 _ B6.out).mono ?_); rintro e w7 ⟨rfl, hb7⟩; have L5' := L5.out; have B7 := Lib.hid (bgo B6.out hb7); have M7 := Lib.hid (M6.out.below hb7 (by have := K6.out.size; omega)); have K7 : Hid (PkAt w5.heap.size (mixK X Y 0) w7) := Lib.hid (by rw [HZ0.out]; exact K6.out.go hb7); clear L5' q0 q1 q2 p0 p1 p2 hb7 hpk2 M6 B6 K6))
        go_loopw [40] (fun i wr => ∃ k : Nat, k ≤ 256 ∧ i = .int .i64 (k : Int) ∧ Hid (LM w.heap.size P x (.slice a n cap) P x (.slice a' n' cap') wr) ∧ Hid (PkAt w5.heap.size (mixK X Y k) wr) ∧ Hid (Below w.heap.size w wr)) (fun i _ => 256 - (intOf i).toNat)
        case atStart => exact ⟨0, by omega, rfl, M7, K7, B7⟩
        case round =>
          clear M7 K7 B7
          obtain ⟨k, hk, rfl, HM, HK, HW⟩ := hrel
          have HL5 := L5.out
          by_cases hlt : k < 256
          · have hkI : (k : Int) < 256 := by omega
            have hix := HIX.out k hlt
            have hy := Byt.at_ HYB.out k
            have HS := Lib.hid (HZS.out k hlt)
            have HA := Lib.hid (HZA.out k hlt)
            have hra := lraise_any w5.heap.size k (Y.getD k 0) (mixK X Y k) wr HK.out hlt hy
            rw [HA.out, HS.out] at hra
            generalize Y.getD k 0 = z at *
            go_wp2_with (go_at_call 45; (with_reducible refine hra.mono ?_); rintro e w8 ⟨rfl, hk8, ho8⟩; have K8 := Lib.hid hk8; have B8 := Lib.hid (HW.out.trans (ho8.1.mono (show w.heap.size ≤ w5.heap.size by omega))); have M8 := Lib.hid (HM.out.oth ho8 (by omega)); clear hk8 ho8)
            go_roundw
            case rel => exact ⟨k + 1, by omega, by go_num, M8, K8, B8⟩
            case measure => simp [intOf]; omega
          · obtain rfl : k = 256 := by omega
            obtain ⟨⟨⟨q0, q1, q2⟩, f0, f1, f2⟩, -, ⟨r0, r1, r2⟩, g0, g1, g2⟩ := HM.out
            have HSZ := Lib.hid (Nat.lt_of_le_of_lt (show w.heap.size + 3 ≤ w5.heap.size from HL5) HK.out.size)
            go_wp2_with (go_at_call 46; (with_reducible refine (HUN.out _ _ _ HK.out).mono ?_); rintro e w8 ⟨v8, rfl, ho8, hb8⟩; have B8 := Lib.hid (bgo HW.out hb8); have HS7 := HK.out.size; have M8 := Lib.hid (HM.out.below hb8 (by have := HSZ.out; omega)); rw [HMP.out] at ho8; have O8 := Lib.hid ho8; obtain ⟨a8, c8, rfl⟩ := ho8.rd.shape; clear q0 q1 q2 f0 f1 f2 r0 r1 r2 g0 g1 g2; obtain ⟨⟨⟨q0, q1, q2⟩, f0, f1, f2⟩, -, ⟨r0, r1, r2⟩, g0, g1, g2⟩ := M8.out; clear ho8 hb8)
            have HN3 := HSZ.out
            refine bodyPost_ret (v := .tuple #[.agg #[.int .i64 P, .int .u64 x, .slice a8 (maxL A M A.length).length c8], .int .i64 0]) (by simp [results, Tryd.results23, go_sem, *]) rfl ⟨_, rfl, ⟨_, _, _, rfl, ?_⟩, ?_⟩
            · exact (OwnI.keep3 (k := w.heap.size + 1 + 1) (O8.out.keep (b := w.heap.size) (by omega) _ _) (by omega) _ _ _).mono (by omega)
            · exact bset3 (bset B8.out w.heap.size 2 _ (Nat.le_refl _)) _ (by omega) _ _ _
    · rw [if_pos (show llE Q M ≠ 0 from hF), if_pos (show llE Q M ≠ 0 from hF)]
      have hF2 : (llE Q M != 0) = true := by simpa using hF
      generalize llE Q M = E at *
      clear hF hE hok
      go_enter Tryd.func23, Tryd.ntmps23
      go_wp2_with (first
        | (go_at_call 21; (with_reducible refine (h1 _ HB0.out).mono ?_); rintro e w2 ⟨rfl, hb2⟩; have B2 := Lib.hid (bgo HB0.out hb2); have M2 := Lib.hid (M0.out.below hb2 (by simp)); obtain ⟨-, ⟨⟨p0, p1, p2⟩, -⟩, -⟩ := M2.out; have L2 := Lib.hid (show w.heap.size + 3 ≤ w2.heap.size by have := hb2.size; simp at this; omega); clear hb2 M0 HB0 h1)
        | (go_at_call 21; (with_reducible refine (h2 _ B2.out).mono ?_); rintro e w3 ⟨rfl, hb3⟩; have B3 := Lib.hid (bgo B2.out hb3); have M3 := Lib.hid (M2.out.below hb3 (by have := L2.out; omega)); clear p0 p1 p2; obtain ⟨-, -, ⟨r0, r1, r2⟩, g0, g1, g2⟩ := M3.out; clear hb3 h2 B2 M2 L2))
      refine bodyPost_ret (v := .tuple #[.agg #[.int .i64 0, .int .u64 0, .slice none 0 0], .int .i64 E]) (by simp [results, Tryd.results23, go_sem, *]) rfl ⟨_, rfl, noneL_own _ _, ?_⟩
      exact bset3 B3.out _ (by omega) _ _ _
  · rw [if_pos (show llE P A ≠ 0 from hE), if_pos (show llE P A ≠ 0 from hE)]
    have hE2 : (llE P A != 0) = true := by simpa using hE
    generalize llE P A = E at *
    clear hE h2
    go_enter Tryd.func23, Tryd.ntmps23
    go_wp2_with (first
      | (go_at_call 21; (with_reducible refine (h1 _ HB0.out).mono ?_); rintro e w2 ⟨rfl, hb2⟩; have B2 := Lib.hid (bgo HB0.out hb2); have M2 := Lib.hid (M0.out.below hb2 (by simp)); obtain ⟨-, -, ⟨r0, r1, r2⟩, g0, g1, g2⟩ := M2.out; clear hb2 M0 h1))
    refine bodyPost_ret (v := .tuple #[.agg #[.int .i64 0, .int .u64 0, .slice none 0 0], .int .i64 E]) (by simp [results, Tryd.results23, go_sem, *]) rfl ⟨_, rfl, noneL_own _ _, ?_⟩
    exact bset3 B2.out _ (by omega) _ _ _
end Go.Proofs.YtgnopnifdiipkaaDoor
