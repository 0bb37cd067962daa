/- The contracts of the reference's cell and InsertCountMin. -/
import Derived.Test.YtlbbmnjhohfbkaaCmIns
import Derived.Test.YtlbbmnjhohfbkaaStepApp
namespace Go.Proofs.Ytlbbmnjhohfbkaa
open Go.RowKit
set_option linter.unusedVariables false
set_option linter.unusedSimpArgs false
set_option maxRecDepth 100000 in
theorem rcell_any (D S x : Int) (v : Value) (s : Bool) (r : Nat) (k : ByteArray) (w : World) (hv : ∃ a n cap, v = .slice a n cap) (hr : r < 8) (hS : 1 ≤ S ∧ S ≤ 64) (x0 : 0 ≤ x) (x1 : x ≤ 18446744073709551615) (hk : k.size ≤ maxLen) (hkey : keyB (byt k) = true) :
    Calls Try.prog 50 #[.agg #[.int .i64 D, .int .i64 S, .int .u64 x, v, .bool s], .int .i64 r, .string k] w fun e w' => e = .returned (.int .i64 (celI x S k r)) ∧ Below w.heap.size w w' := by
  obtain ⟨a, n, cap, rfl⟩ := hv
  obtain ⟨S1, S2⟩ := hS
  have hcol := fun (w : World) => by
    have h := rcol_any x r S k w x0 x1 (by omega) (by omega) (by omega) (by omega) hk
    have e1 : colE r S k = 0 := by unfold colE; rw [if_neg (by omega), if_neg (by rw [hkey]; simp)]
    have e2 : colV x r S k = ((colN x S k r : Nat) : Int) := by unfold colV; rw [e1, if_pos rfl, colN_eq x S k r S1]
    rw [e1, e2] at h
    exact h
  have hm : 0 ≤ (r : Int) * S := Int.mul_nonneg (by omega) (by omega)
  have hm2 : (r : Int) * S ≤ 8 * 64 := Int.mul_le_mul (by omega) S2 (by omega) (by omega)
  have hcl : colN x S k r < 64 := by have := colN_eq x S k r S1; have := colI_bd x r S k S1; omega
  have HE := Lib.hid (show ((celI x S k r : Nat) : Int) = (r : Int) * S + colN x S k r by rw [colN_eq x S k r S1]; exact celI_eq x S k r S1)
  rw [HE.out]
  clear HE
  generalize colN x S k r = c at *
  go_enter Try.func50, Try.ntmps50
  go_wp2_with (go_at_call 14; refine (hcol _).mono ?_; rintro e w2 ⟨rfl, hb2⟩; have B2 := Lib.hid (bgo (b1 (a := w) (.cells #[.int .i64 D, .int .i64 S, .int .u64 x, .slice a n cap, .bool s] 26)) hb2); obtain ⟨hc2, hf2⟩ := bcell hb2; have hz2 : w.heap.size < w2.heap.size := (by have := hb2.size; simp at this; omega); clear hb2)
  go_ret
  exact ⟨rfl, B2.out⟩
theorem InsL.below {W : World} {h B g b n cap : Nat} {D S x : Int} {L : List Int} {s : Bool} {k : ByteArray} {m : Int} {r : Nat} {w w' : World} (hl : InsL W h B g b n cap 0 D S x L s k m r w) (hb : Below w.heap.size w w') (hh : h + 2 < w.heap.size) : InsL W h B g b n cap 0 D S x L s k m r w' :=
  ⟨hl.1.below hb hh, hl.2.1.below hb, fun q hq => absurd hq (Nat.not_lt_zero _), hl.2.2.2.trans (hb.mono (by omega))⟩
theorem InsL.drewN {W : World} {h B g b n cap N : Nat} {D S x : Int} {L : List Int} {s : Bool} {k : ByteArray} {m : Int} {r : Nat} {w : World} (hl : InsL W h B g b n cap N D S x L s k m r w) (j : Nat) : InsL W h B g b n cap N D S x L s k m r (w.drewN j) :=
  ⟨hl.1, hl.2.1, hl.2.2.1, below_drewN hl.2.2.2 j⟩
theorem InsL.size {W : World} {h B g b n cap N : Nat} {D S x : Int} {L : List Int} {s : Bool} {k : ByteArray} {m : Int} {r : Nat} {w : World} (hl : InsL W h B g b n cap N D S x L s k m r w) : h + 2 < w.heap.size :=
  block_lt_of_cell hl.1.2.2.1.1
set_option maxRecDepth 100000 in
set_option maxHeartbeats 4000000 in
theorem rcins_any (c : CM) (v : Value) (k : ByteArray) (m : Int) (w : World) (hc : WfC c) (hv : RdC c v w) (hk : k.size ≤ maxLen) (m0 : -9223372036854775808 ≤ m) (m1 : m ≤ 9223372036854775807) :
    Calls Try.prog 20 #[v, .agg #[.string k, .int .i64 m]] w fun e w' =>
      ∃ u, e = .returned (.tuple #[u, .int .i64 (cmInsE c k m)]) ∧ OwnC w.heap.size (cmIns c k m) u w' ∧ Below w.heap.size w w' := by
  obtain ⟨D, S, x, L, s⟩ := c
  obtain ⟨⟨D0, D1⟩, ⟨S0, S1⟩, x0, x1⟩ := hc
  obtain ⟨a, n, cap, rfl, hR⟩ := hv
  dsimp only at D0 D1 S0 S1 x0 x1 hR ⊢
  have h1 := fun (w' : World) (hb : Below w.heap.size w w') => rcval_any D S x L a n cap s w' D0 D1 S0 S1 (hR.below hb)
  have h2 := fun w => ritem_any k m w hk m0 m1
  have M0 := Lib.hid (InsM.new D S x (.slice a n cap) s k m 26 37 w)
  have HB0 := Lib.hid (b3 (a := w) (.cells #[.int .i64 D, .int .i64 S, .int .u64 x, .slice a n cap, .bool s] 26) (.cells #[.string k, .int .i64 m] 37) (.cells #[.int .i64 0, .int .i64 0, .int .u64 0, .slice none 0 0, .bool false] 26))
  unfold cmIns cmInsE
  dsimp only
  by_cases hE : cmE D S L = 0
  · rw [if_neg (by rw [hE]; simp), if_neg (by rw [hE]; simp)]
    have hok := cmE_ok hE
    rw [hE] at h1
    by_cases hF : itemE (byt k) m = 0
    · rw [if_neg (by rw [hF]; simp), hF]
      rw [hF] at h2
      have hkey : keyB (byt k) = true := by
        unfold itemE at hF
        by_cases hq : keyB (byt k) = false
        · rw [if_pos hq] at hF; cases hF
        · simpa using hq
      obtain ⟨⟨o1, o2, o3, o4⟩, o5, o6⟩ := hok
      obtain ⟨N, rfl⟩ : ∃ N : Nat, D = (N : Int) := ⟨D.toNat, by omega⟩
      rw [Int.toNat_natCast]
      have hNS : 1 * 1 ≤ (N : Int) * S := Int.mul_le_mul o1 o3 (by omega) (by omega)
      have hNS2 : (N : Int) * S ≤ 8 * 64 := Int.mul_le_mul o2 o4 (by omega) (by omega)
      have hlen : 1 ≤ L.length ∧ L.length ≤ 512 := by omega
      have HCI := Lib.hid (fun (r : Nat) (hr : r < N) => celI_lt (x := x) (D := N) (S := S) (k := k) (r := r) (n := L.length) o3 (by omega) o5)
      clear hE hF
      go_enter Try.func20, Try.ntmps20
      go_wp2_with (first
        | (go_at_call 22; refine (h1 _ HB0.out).mono ?_; rintro e w2 ⟨rfl, hb2⟩; have B2 := Lib.hid (bgo HB0.out hb2); have M2 := Lib.hid (M0.out.below hb2 (by simp)); have L2 := Lib.hid (show w.heap.size + 3 ≤ w2.heap.size by have := hb2.size; simp at this; omega); obtain ⟨⟨⟨q20, q21, q22, q23, q24⟩, f20, f21, f22, f23, f24⟩, ⟨i20, i21⟩, _, _⟩ := M2.out; clear hb2)
        | (go_at_call 49; refine (h2 _).mono ?_; rintro e w3 ⟨rfl, hb3⟩; have B3 := Lib.hid (bgo B2.out hb3); have M3 := Lib.hid (M2.out.below hb3 (by have := L2.out; omega)); have L3 := Lib.hid (Nat.le_trans L2.out hb3.size); obtain ⟨⟨⟨q30, q31, q32, q33, q34⟩, f30, f31, f32, f33, f34⟩, ⟨i30, i31⟩, _, _⟩ := M3.out; have HS3 := Lib.hid (hR.below B3.out).src; clear hb3)
        | (at_builtin; refine wp_appI rfl _ _ _ rfl w3.heap.size [] L _ _ rfl rfl (OwnI.empty _ _) HS3.out (Nat.le_refl _) (by simp; omega) ?_; intro v4 w4 ho4 hb4; rw [List.nil_append] at ho4; have B4 := Lib.hid (bgo B3.out hb4); have M4 := Lib.hid (M3.out.below hb4 (by have := L3.out; omega)); have L4 := Lib.hid (Nat.le_trans L3.out hb4.size); obtain ⟨⟨⟨q40, q41, q42, q43, q44⟩, f40, f41, f42, f43, f44⟩, ⟨i40, i41⟩, _, _⟩ := M4.out; obtain ⟨a4, cap4, rfl⟩ := ho4.rd.shape; obtain ⟨b, rfl, hbB, hbs, _, _⟩ := ho4.cells hlen.1; have M5 := Lib.hid (M4.out.setV (.slice (some ⟨b, 0, none⟩) L.length cap4) rfl); have O5 := Lib.hid (ho4.keep (b := w.heap.size) (by have := L3.out; omega) 3 (.slice (some ⟨b, 0, none⟩) L.length cap4)); have B5 := Lib.hid (bset B4.out w.heap.size 3 (.slice (some ⟨b, 0, none⟩) L.length cap4) (Nat.le_refl _)); have HI := Lib.hid (show InsL w w.heap.size w3.heap.size (b + 1) b L.length cap4 0 N S x L s k m 0 (w4.setCell ⟨w.heap.size, 3, none⟩ (.slice (some ⟨b, 0, none⟩) L.length cap4)) from ⟨M5.out, O5.out, fun q hq => absurd hq (Nat.not_lt_zero _), B5.out⟩); clear hb4 ho4 hbB hbs))
      have HB3 := Lib.hid L3.out
      obtain ⟨B, hBB⟩ : ∃ B, w3.heap.size = B := ⟨_, rfl⟩
      rw [hBB] at HI HB3
      clear q20 q21 q22 q23 q24 f20 f21 f22 f23 f24 i20 i21 q30 q31 q32 q33 q34 f30 f31 f32 f33 f34 i30 i31 q40 q41 q42 q43 q44 f40 f41 f42 f43 f44 i40 i41
      clear M0 M2 M3 M4 M5 O5 B5 L2 L3 L4 B2 B3 B4 HB0 h1 h2 hR hBB HS3
      go_loopw [8, 9, 10, 11] (fun i _ _ _ wr => ∃ r : Nat, r ≤ N ∧ i = .int .i64 (r : Int) ∧ Hid (InsL w w.heap.size B (b + 1) b L.length cap4 0 N S x L s k m r wr)) (fun i _ _ _ _ => N - (intOf i).toNat)
      case atStart => exact ⟨0, by omega, rfl, HI⟩
      case round =>
        clear HI
        obtain ⟨r, hr, rfl, HI⟩ := hrel
        by_cases hlt : r < N
        · have hce := fun (w : World) (sb : Bool) => rcell_any N S x (.slice (some ⟨b, 0, none⟩) L.length cap4) sb r k w ⟨_, _, _, rfl⟩ (by omega) ⟨o3, o4⟩ x0 x1 hk hkey
          obtain ⟨⟨⟨q0, q1, q2, q3, q4⟩, f0, f1, f2, f3, f4⟩, ⟨i0, i1⟩, _, _⟩ := HI.out.1
          have hrN : (r : Int) < (N : Int) := by omega
          clear o5 hNS hNS2
          go_wp2_with fail
          go_at_call 50
          refine (hce _ _).mono ?_
          rintro e w6 ⟨rfl, hb6⟩
          have HI6 := Lib.hid (HI.out.below hb6 HI.out.size)
          have HST := Lib.hid (fun j => (HI6.out.drewN j).step HB3.out (Nat.lt_succ_self b) (HCI.out r hlt))
          have hlen2 := insUp_len x S k m L s r
          obtain ⟨g', he, hge, hgs, hcl, _⟩ := HI6.out.2.1.cells (by omega)
          simp only [Option.some.injEq, Addr.mk.injEq, and_true] at he
          subst he
          obtain ⟨hcc, hcf⟩ := hcl (celI x S k r) (by rw [hlen2]; exact HCI.out r hlt)
          have hrg := Rng.at_ HI6.out.2.1.1 (celI x S k r)
          have hra := fun w => radd_count ((insUp x S k m L s r).1.getD (celI x S k r) 0) m w hrg.1 hrg.2 m0 m1
          have hil : (celI x S k r : Int) < (L.length : Int) := by have := HCI.out r hlt; omega
          obtain ⟨⟨⟨q0, q1, q2, q3, q4⟩, f0, f1, f2, f3, f4⟩, ⟨i0, i1⟩, _, _⟩ := HI6.out.1
          have hne : ¬ b = w.heap.size := by have := HB3.out; omega
          have hne' : ¬ w.heap.size = b := by omega
          clear hb6 hcl HI hce hlen2 hgs hge
          generalize celI x S k r = i at *
          generalize (insUp x S k m L s r).1.getD i 0 = c at *
          generalize (insUp x S k m L s r).2 = sb at *
          generalize sumT c m = A at *
          generalize sumF c m = F at *
          go_wp2
          go_quiet ((go_at_call 51; exact quiet_left (hra _)))
          cases sb
          all_goals
            go_wp2
            go_big_region
            go_wp2
            go_roundw
            case rel => exact ⟨r + 1, by omega, by go_num, HST.out _⟩
            case measure => simp [intOf]; omega
        · obtain rfl : r = N := by omega
          obtain ⟨⟨⟨q0, q1, q2, q3, q4⟩, f0, f1, f2, f3, f4⟩, _, ⟨r0, r1, r2, r3, r4⟩, g0, g1, g2, g3, g4⟩ := HI.out.1
          go_wp2
          refine bodyPost_ret (v := .tuple #[.agg #[.int .i64 r, .int .i64 S, .int .u64 x, .slice (some ⟨b, 0, none⟩) L.length cap4, .bool (insUp x S k m L s r).2], .int .i64 0]) (by simp [results, Try.results20, go_sem, *]) rfl ⟨_, rfl, ⟨_, _, _, rfl, ?_⟩, ?_⟩
          · exact (HI.out.2.1.keep5 (by have := HB3.out; omega) _ _ _ _ _).mono (by have := HB3.out; omega)
          · exact bset5 HI.out.2.2.2 _ (by omega) _ _ _ _ _
    · rw [if_pos hF]
      have hF2 : (itemE (byt k) m != 0) = true := by simpa using hF
      generalize itemE (byt k) m = F at *
      clear hF hE hok
      go_enter Try.func20, Try.ntmps20
      go_wp2_with (first
        | (go_at_call 22; refine (h1 _ HB0.out).mono ?_; rintro e w2 ⟨rfl, hb2⟩; have B2 := Lib.hid (bgo HB0.out hb2); have M2 := Lib.hid (M0.out.below hb2 (by simp)); have L2 := Lib.hid (show w.heap.size + 3 ≤ w2.heap.size by have := hb2.size; simp at this; omega); obtain ⟨⟨⟨q20, q21, q22, q23, q24⟩, f20, f21, f22, f23, f24⟩, ⟨i20, i21⟩, _, _⟩ := M2.out; clear hb2)
        | (go_at_call 49; refine (h2 _).mono ?_; rintro e w3 ⟨rfl, hb3⟩; have B3 := Lib.hid (bgo B2.out hb3); have M3 := Lib.hid (M2.out.below hb3 (by have := L2.out; omega)); obtain ⟨_, _, ⟨r30, r31, r32, r33, r34⟩, g30, g31, g32, g33, g34⟩ := M3.out; clear hb3))
      refine bodyPost_ret (v := .tuple #[.agg #[.int .i64 0, .int .i64 0, .int .u64 0, .slice none 0 0, .bool false], .int .i64 F]) (by simp [results, Try.results20, go_sem, *]) rfl ⟨_, rfl, noneC_own _ _, ?_⟩
      exact bset5 B3.out _ (by omega) _ _ _ _ _
  · rw [if_pos hE, if_pos hE]
    have hE2 : (cmE D S L != 0) = true := by simpa using hE
    generalize cmE D S L = E at *
    clear hE
    go_enter Try.func20, Try.ntmps20
    go_wp2_with (go_at_call 22; refine (h1 _ HB0.out).mono ?_; rintro e w2 ⟨rfl, hb2⟩; have B2 := Lib.hid (bgo HB0.out hb2); have M2 := Lib.hid (M0.out.below hb2 (by simp)); obtain ⟨_, _, ⟨r20, r21, r22, r23, r24⟩, g20, g21, g22, g23, g24⟩ := M2.out; clear hb2)
    refine bodyPost_ret (v := .tuple #[.agg #[.int .i64 0, .int .i64 0, .int .u64 0, .slice none 0 0, .bool false], .int .i64 E]) (by simp [results, Try.results20, go_sem, *]) rfl ⟨_, rfl, noneC_own _ _, ?_⟩
    exact bset5 B2.out _ (by omega) _ _ _ _ _
end Go.Proofs.Ytlbbmnjhohfbkaa
