/- The contract of loglog.Insert. -/
import Derived.Test.YtgnopnifdiipkaaDoorLPPos
import Derived.Test.YtgnopnifdiipkaaDoorLPkF
import Derived.Test.YtgnopnifdiipkaaDoorRLIns
namespace Go.Proofs.YtgnopnifdiipkaaDoor
open Go.RowKit
set_option linter.unusedVariables false
set_option linter.unusedSimpArgs false
theorem LIn.oth {h g : Nat} {P x : Int} {v : Value} {k : ByteArray} {m : Int} {w w' : World} (hm : LIn h P x v k m w) (ho : Oth g w w') (hg : h + 2 < g) : LIn h P x v k m w' :=
  hm.keep fun b hb => ho.2 b (by omega)
theorem pad_set_take {L : List Int} (hl : L.length ≤ 256) (i : Nat) (y : Int) : ((padK L L.length).set i y).take L.length = L.set i y := by
  rw [List.take_set, padK_take hl]
theorem Oth.below {g B : Nat} {w w' : World} (h : Oth g w w') (hB : B ≤ g) : Below B w w' := h.1.mono hB
set_option maxRecDepth 100000 in
set_option maxHeartbeats 4000000 in
theorem lins_any (c : LL) (v : Value) (k : ByteArray) (m : Int) (w : World) (hc : WfL c) (hv : RdL c v w) (hk : k.size ≤ maxLen) (m0 : -9223372036854775808 ≤ m) (m1 : m ≤ 9223372036854775807) :
    Calls Tryd.prog 19 #[v, .agg #[.string k, .int .i64 m]] w fun e w' => ∃ u, e = .returned (.tuple #[u, .int .i64 (llInsE c k m)]) ∧ OwnL w.heap.size (llIns c k m) u w' ∧ Below w.heap.size w w' := by
  obtain ⟨P, x, L⟩ := c
  obtain ⟨x0, x1⟩ := hc
  obtain ⟨a, n, cap, rfl, hR⟩ := hv
  dsimp only at x0 x1 hR ⊢
  have h1 := fun (w' : World) (hb : Below w.heap.size w w') => lval_any P x L a n cap w' (hR.below hb)
  have h2 := fun w => item_any k m w hk m0 m1
  have M0 := Lib.hid (LIn.new P x (.slice a n cap) k m 26 37 w)
  have HB0 := Lib.hid (b3 (a := w) (.cells #[.int .i64 P, .int .u64 x, .slice a n cap] 26) (.cells #[.string k, .int .i64 m] 37) (.cells #[.int .i64 0, .int .u64 0, .slice none 0 0] 26))
  unfold llIns llInsE
  dsimp only
  by_cases hE : llE P L = 0
  · rw [if_neg (by rw [hE]; simp), if_neg (by rw [hE]; simp)]
    obtain ⟨⟨P0, P1⟩, hlen, hreg⟩ := llE_ok hE
    rw [hE] at h1
    by_cases hF : itemE (byt k) m = 0
    · rw [if_neg (by rw [hF]; simp), hF]
      rw [hF] at h2
      have hkey : keyB (byt k) = true := by
        unfold itemE at hF
        by_cases hq : keyB (byt k) = false
        · rw [if_pos hq] at hF; cases hF
        · simpa using hq
      have hp := fun w => lpos_any P x k w x0 x1 hk
      have hpe : posE P k = 0 := by unfold posE; rw [if_neg (by rw [(prB_iff P).2 ⟨P0, P1⟩]; simp), if_neg (by rw [hkey]; simp)]
      have hpr : posR P x k = (regI P x k : Nat) := by unfold posR; rw [hpe, if_pos rfl]
      have hpk : posK P x k = rnkI P x k := by unfold posK; rw [hpe, if_pos rfl]
      rw [hpe, hpr, hpk] at hp
      have hi := regI_lt (x := x) (k := k) ⟨P0, P1⟩
      have hN := llN_bd ⟨P0, P1⟩
      have HLN : Hid (llN P = L.length) := Lib.hid hlen.symm
      rw [← hlen] at hi hN
      have hrk : 0 ≤ rnkI P x k ∧ rnkI P x k ≤ 255 := by
        have := rnkI_bd (x := x) (k := k) ⟨P0, P1⟩
        omega
      have hrd : ∀ j, 0 ≤ L.getD j 0 ∧ L.getD j 0 ≤ 255 := fun j => by
        by_cases hj : j < L.length
        · have := hreg (L[j]) (List.getElem_mem hj)
          simp only [List.getD, List.getElem?_eq_getElem hj, Option.getD_some]
          omega
        · simp [List.getD, List.getElem?_eq_none (Nat.le_of_not_lt hj)]
      generalize regI P x k = i at *
      generalize rnkI P x k = z at *
      obtain ⟨hN0, hN1⟩ := hN
      have hpack := fun (w' : World) (hb : Below w.heap.size w w') => lpack_any P x L a n cap w' (hR.below hb) hN1 hrd
      have HPL := Lib.hid (padK_len (Nat.le_refl L.length) hN1)
      have HPB := Lib.hid (padK_byt (k := L.length) hrd)
      have HPT := Lib.hid (fun y => pad_set_take (L := L) hN1 i y)
      have HPA := Lib.hid (padK_at hi)
      have hun := fun g Z (w' : World) (h : PkAt g Z w') => lunpack_any P g Z w' h ⟨P0, P1⟩
      rw [HLN.out] at hun
      have HUN := Lib.hid hun
      have hcv : IntKind.u8.wrap z = z := by rw [IntKind.wrap_u8]; omega
      have hi2 : i < 256 := by omega
      have hra := fun g Z (w' : World) (h : PkAt g Z w') => lraise_any g i z Z w' h hi2 hrk
      have HRA := Lib.hid hra
      have hz : ∀ (w : World) o, (w.alloc o).heap.size = w.heap.size + 1 := fun w o => by simp
      have HZ := Lib.hid hz
      generalize padK L L.length = Z at *
      clear hE hF hpe hpr hpk hkey hlen hreg hrd hun hra hz HLN hR
      go_enter Tryd.func19, Tryd.ntmps19
      go_wp2_with (first
        | (go_at_call 21; (with_reducible refine (h1 _ HB0.out).mono ?_); rintro e w2 ⟨rfl, hb2⟩; have B2 := Lib.hid (bgo HB0.out hb2); have M2 := Lib.hid (M0.out.below hb2 (by simp)); have L2 := Lib.hid (show w.heap.size + 3 ≤ w2.heap.size by have := hb2.size; simp at this; omega); obtain ⟨⟨⟨q0, q1, q2⟩, f0, f1, f2⟩, ⟨i0, i1⟩, -⟩ := M2.out; clear hb2 h1 M0 HB0)
        | (go_at_call 43; (with_reducible refine (h2 _).mono ?_); rintro e w3 ⟨rfl, hb3⟩; have B3 := Lib.hid (bgo B2.out hb3); have M3 := Lib.hid (M2.out.below hb3 (by have := L2.out; omega)); have L3 := Lib.hid (Nat.le_trans L2.out hb3.size); clear q0 q1 q2 f0 f1 f2 i0 i1; obtain ⟨⟨⟨q0, q1, q2⟩, f0, f1, f2⟩, ⟨i0, i1⟩, -⟩ := M3.out; clear hb3 h2 B2 M2 L2)
        | (go_at_call 13; (with_reducible refine (hp _).mono ?_); rintro e w4 ⟨rfl, hb4⟩; have B4 := Lib.hid (bgo B3.out hb4); have M4 := Lib.hid (M3.out.below hb4 (by have := L3.out; omega)); have L4 := Lib.hid (Nat.le_trans L3.out hb4.size); clear q0 q1 q2 f0 f1 f2 i0 i1; obtain ⟨⟨⟨q0, q1, q2⟩, f0, f1, f2⟩, ⟨i0, i1⟩, -⟩ := M4.out; clear hb4 hp B3 M3 L3)
        | (go_at_call 44; (with_reducible refine (hpack _ B4.out).mono ?_); rintro e w5 ⟨rfl, hb5⟩; have L5 := Lib.hid (Nat.le_trans L4.out hb5.size); have B5 := Lib.hid (bal (bgo B4.out hb5) (.cells Tryd.zeroCells68 68)); have M5 := Lib.hid ((M4.out.below hb5 (by have := L4.out; omega)).below (b1 (.cells Tryd.zeroCells68 68)) (by have := L5.out; omega)); have K5 := Lib.hid (PkAt.new w5); clear q0 q1 q2 f0 f1 f2 i0 i1 hb5 hpack M4 B4 L4)
        | (refine wp_store_pk rfl _ _ rfl w5.heap.size rfl K5.out rfl HPB.out HPL.out ?_; intro w6 hk6 ho6; have K6 := Lib.hid hk6; have L5' := L5.out; have B6 := Lib.hid (B5.out.trans (ho6.below (show w.heap.size ≤ w5.heap.size by omega))); have M6 := Lib.hid (M5.out.oth ho6 (by omega)); clear L5' hk6 ho6 K5 B5 M5)
        | (go_at_call 45; (with_reducible refine (HRA.out _ _ _ K6.out).mono ?_); rintro e w7 ⟨rfl, hk7, ho7⟩; have K7 := Lib.hid hk7; have L5' := L5.out; have B7 := Lib.hid (B6.out.trans (ho7.below (show w.heap.size ≤ w5.heap.size by omega))); have M7 := Lib.hid (M6.out.oth ho7 (by omega)); obtain ⟨⟨⟨q0, q1, q2⟩, f0, f1, f2⟩, ⟨i0, i1⟩, -⟩ := M7.out; clear L5' hk7 ho7 K6 B6 M6)
        | (go_at_call 46; (with_reducible refine (HUN.out _ _ _ K7.out).mono ?_); rintro e w8 ⟨v8, rfl, ho8, hb8⟩; have B8 := Lib.hid (bgo B7.out hb8); have HH8 := Lib.hid K7.out.size; have HSZ := Lib.hid (Nat.lt_of_le_of_lt (show w.heap.size + 3 ≤ w5.heap.size from L5.out) K7.out.size); have M8 := Lib.hid (M7.out.below hb8 (by have := HSZ.out; omega)); rw [HPT.out] at ho8; have O8 := Lib.hid ho8; obtain ⟨a8, c8, rfl⟩ := ho8.rd.shape; clear q0 q1 q2 f0 f1 f2 i0 i1; obtain ⟨⟨⟨q0, q1, q2⟩, f0, f1, f2⟩, -, ⟨r0, r1, r2⟩, g0, g1, g2⟩ := M8.out; clear ho8 hb8 K7 B7 M7))
      rw [HPA.out] at O8
      have HN3 := HSZ.out
      have HS7 := HH8.out
      refine bodyPost_ret (v := .tuple #[.agg #[.int .i64 P, .int .u64 x, .slice a8 (L.set i (max (Z.getD i 0) z)).length c8], .int .i64 0]) (by simp [results, Tryd.results19, go_sem, *]) rfl ⟨_, rfl, ⟨_, _, _, rfl, ?_⟩, ?_⟩
      · rw [HPA.out]
        exact (OwnI.keep3 (k := w.heap.size + 1 + 1) (O8.out.keep (b := w.heap.size) (by omega) _ _) (by omega) _ _ _).mono (by omega)
      · exact bset3 (bset B8.out w.heap.size 2 _ (Nat.le_refl _)) _ (by omega) _ _ _
    · rw [if_pos hF]
      have hF2 : (itemE (byt k) m != 0) = true := by simpa using hF
      generalize itemE (byt k) m = E at *
      clear hF hE hlen hreg
      go_enter Tryd.func19, Tryd.ntmps19
      go_wp2_with (first
        | (go_at_call 21; (with_reducible refine (h1 _ HB0.out).mono ?_); rintro e w2 ⟨rfl, hb2⟩; have B2 := Lib.hid (bgo HB0.out hb2); have M2 := Lib.hid (M0.out.below hb2 (by simp)); have L2 := Lib.hid (show w.heap.size + 3 ≤ w2.heap.size by have := hb2.size; simp at this; omega); obtain ⟨-, ⟨i0, i1⟩, -⟩ := M2.out; clear hb2 h1 M0 HB0)
        | (go_at_call 43; (with_reducible refine (h2 _).mono ?_); rintro e w3 ⟨rfl, hb3⟩; have B3 := Lib.hid (bgo B2.out hb3); have M3 := Lib.hid (M2.out.below hb3 (by have := L2.out; omega)); clear i0 i1; obtain ⟨-, -, ⟨r0, r1, r2⟩, g0, g1, g2⟩ := M3.out; clear hb3 h2 B2 M2 L2))
      refine bodyPost_ret (v := .tuple #[.agg #[.int .i64 0, .int .u64 0, .slice none 0 0], .int .i64 E]) (by simp [results, Tryd.results19, go_sem, *]) rfl ⟨_, rfl, noneL_own _ _, ?_⟩
      exact bset3 B3.out _ (by omega) _ _ _
  · rw [if_pos hE, if_pos hE]
    have hE2 : (llE P L != 0) = true := by simpa using hE
    generalize llE P L = E at *
    clear hE h2
    go_enter Tryd.func19, Tryd.ntmps19
    go_wp2_with (go_at_call 21; (with_reducible refine (h1 _ HB0.out).mono ?_); rintro e w2 ⟨rfl, hb2⟩; have B2 := Lib.hid (bgo HB0.out hb2); have M2 := Lib.hid (M0.out.below hb2 (by simp)); obtain ⟨-, -, ⟨r0, r1, r2⟩, g0, g1, g2⟩ := M2.out; clear hb2 h1 M0)
    refine bodyPost_ret (v := .tuple #[.agg #[.int .i64 0, .int .u64 0, .slice none 0 0], .int .i64 E]) (by simp [results, Tryd.results19, go_sem, *]) rfl ⟨_, rfl, noneL_own _ _, ?_⟩
    exact bset3 B2.out _ (by omega) _ _ _
end Go.Proofs.YtgnopnifdiipkaaDoor
