/- The walk of PinsBack. -/
import Derived.Test.YtledpfdflcmlcaaKn16
import Derived.Test.YtledpfdflcmlcaaPnK
import Derived.Test.YtledpfdflcmlcaaOthI
namespace Go.Proofs.Ytledpfdflcmlcaa
open Go.RowKit
set_option linter.unusedVariables false
set_option linter.unusedSimpArgs false

theorem back_facts {L : List Pn} {x y : Int} (hz : valN L = 0) (hs : sumP L ≤ 100) (hx : 0 ≤ x) (hy : 0 ≤ y) :
    ∃ X U Z, addE L x = 0 ∧ addV L x = X ∧ remE X x = 0 ∧ remV X x = L ∧ addE X y = 0 ∧ addV X y = Z ∧ addE L y = 0 ∧ addV L y = U ∧ addE U x = 0 ∧ addV U x = Z ∧ totF 0 L = sumP L ∧ totF 0 Z = sumP L + 2 ∧ X.length ≤ L.length + 1 ∧ U.length ≤ L.length + 1 ∧ Z.length ≤ L.length + 2 := by
  have hv := (vd_iff L).1 hz
  have add0 : ∀ {M : List Pn} {c : Int}, Vd 0 M → sumP M ≤ 1000 → 0 ≤ c → addE M c = 0 ∧ addV M c = addP c M ∧ Vd 0 (addP c M) := by
    intro M c hM hS hc
    have hf := fullP_small hM (by omega) c
    have e : addE M c = 0 := by unfold addE; rw [(vd_iff M).2 hM, if_neg (by decide), if_neg (by omega), hf]; rfl
    exact ⟨e, by unfold addV; rw [e, if_pos rfl], addP_vd hM hc hf⟩
  obtain ⟨a1, a2, a3⟩ := add0 hv (by omega) hx
  obtain ⟨b1, b2, b3⟩ := add0 (c := y) a3 (by rw [sumP_add]; omega) hy
  obtain ⟨c1, c2, c3⟩ := add0 hv (by omega) hy
  obtain ⟨d1, d2, d3⟩ := add0 (c := x) c3 (by rw [sumP_add]; omega) hx
  have hn := (sumP_nn hv).1
  have r1 : remE (addP x L) x = 0 := by unfold remE; rw [(vd_iff _).2 a3, if_neg (by decide), remF_add, if_pos rfl]
  have r2 : remV (addP x L) x = L := by unfold remV; rw [r1, if_pos rfl, rem_add x hv]
  have t1 : totF 0 L = sumP L := by
    rw [totF_eq hv (by decide) (by decide)]
    unfold satN
    rw [if_neg (by omega)]
    omega
  have t2 : totF 0 (addP y (addP x L)) = sumP L + 2 := by
    rw [totF_eq b3 (by decide) (by decide), sumP_add, sumP_add]
    unfold satN
    rw [if_neg (by omega)]
    omega
  have l1 := addP_len x L
  have l2 := addP_len y L
  have l3 := addP_len y (addP x L)
  exact ⟨addP x L, addP y L, addP y (addP x L), a1, a2, r1, r2, b1, b2, c1, c2, d1, by rw [d2]; exact addP_comm y x hv, t1, t2, l1, l2, by omega⟩

set_option maxRecDepth 100000 in
set_option maxHeartbeats 8000000 in
theorem pinsBack_walk (a0 : Option Addr) (len0 cap0 : Nat) (z0 : List Int) (a1 : Int) (a2 : Int) (W : World) (w0 : InRow .i64 W a0 len0 cap0 z0) (w1 : (Lit.int .i64 a1).wf = true) (w2 : (Lit.int .i64 a2).wf = true) :
    Calls Try.prog 5 #[.slice a0 len0 cap0, .int .i64 a1, .int .i64 a2] W fun e w' => e = .returned (.bool true) ∧ Below W.heap.size W w' := by
  have hmade := made16_any (z0.take len0) _ W (inRow_rdJ w0)
  have H0 := Lib.hid (Below.refl W.heap.size W)

  have m1 := mask5k a1
  have m2 := mask5k a2
  have r1 : 0 ≤ a1 % 32 ∧ a1 % 32 ≤ 31 := by omega
  have r2 : 0 ≤ a2 % 32 ∧ a2 % 32 ≤ 31 := by omega
  clear w0 w1 w2
  generalize a1 % 32 = x at *
  generalize a2 % 32 = y at *
  go_enter Try.func5, Try.ntmps5

  go_upto_region 2 with (first
    | (go_at_call 7; refine (hmade).mono ?_; rintro e w1 ⟨L, vp, hL, rfl, ho, hb1⟩; have H1 := Lib.hid (bgo H0.out hb1); have P1 := Lib.hid ho.rd; clear hb1 H0 ho hmade))
  have HL := Lib.hid (show L.length ≤ 1000000000000 by omega)
  by_cases hz : valN L = 0
  · obtain ⟨T, hT⟩ : ∃ T, totF 0 L = T := ⟨_, rfl⟩
    by_cases hT1 : 100 < T
    · have HV := Lib.hid (fun w (h : RdPn L vp w) => (by rw [← hz]; exact rvalp_any L vp w h HL.out : Calls Try.prog 13 #[vp] w fun e w' => e = .returned (.int .i64 0) ∧ Below w.heap.size w w'))
      have HTT := Lib.hid (fun w (h : RdPn L vp w) => (by rw [← hT]; exact rtotp_any L vp w h HL.out : Calls Try.prog 17 #[vp] w fun e w' => e = .returned (.int .i64 T) ∧ w = w'))
      clear hz hT
      go_wp2_with (first
        | (go_at_call 13; refine (HV.out _ P1.out).mono ?_; rintro e w2 ⟨rfl, hb2⟩; have H2 := Lib.hid (bgo H1.out hb2); have P2 := Lib.hid (P1.out.below hb2); clear hb2 H1 P1)
        | (go_at_call 17; refine (HTT.out _ P2.out).mono ?_; rintro e w3 ⟨rfl, rfl⟩; have H3 := H2; have P3 := P2; clear H2 P2)
        | (go_at_call 15; refine (known16_any _).mono ?_; rintro e w4 ⟨rfl, hb4⟩; have H4 := Lib.hid (bgo H3.out hb4); have P4 := Lib.hid (P3.out.below hb4); clear hb4 H3 P3))
      go_ret
      exact ⟨rfl, H4.out⟩
    · obtain ⟨X, U, Z, e1, e2, e3, e4, e5, e6, e7, e8, e9, e10, t1, t2, l1, l2, l3⟩ := back_facts hz (x := x) (y := y) (by
        have h := totF_eq ((vd_iff L).1 hz) (a := 0) (by decide) (by decide)
        rw [hT] at h
        have hn := (sumP_nn ((vd_iff L).1 hz)).1
        unfold satN at h
        split at h <;> omega) r1.1 r2.1
      have HV := Lib.hid (fun w (h : RdPn L vp w) => (by rw [← hz]; exact rvalp_any L vp w h HL.out : Calls Try.prog 13 #[vp] w fun e w' => e = .returned (.int .i64 0) ∧ Below w.heap.size w w'))
      have HTT := Lib.hid (fun w (h : RdPn L vp w) => (by rw [← hT]; exact rtotp_any L vp w h HL.out : Calls Try.prog 17 #[vp] w fun e w' => e = .returned (.int .i64 T) ∧ w = w'))
      have HTP := Lib.hid (fun w (h : RdPn L vp w) => (by rw [← hT]; exact ptotp_any L vp w h HL.out : Calls Try.prog 16 #[vp] w fun e w' => e = .returned (.int .i64 T) ∧ Below w.heap.size w w'))
      have hTZ : totF 0 Z = T + 2 := by rw [t2, ← hT, t1]
      have hT0 : 0 ≤ T := by
        have hn := (sumP_nn ((vd_iff L).1 hz)).1
        rw [← hT, t1]
        exact hn
      have HX := Lib.hid (fun w (h : RdPn L vp w) => paddp_any L vp x w h (by omega) ⟨by omega, by omega⟩)
      have HY := Lib.hid (fun v w (h : RdPn X v w) => premp_any X v x w h (by omega) ⟨by omega, by omega⟩)
      have HZ := Lib.hid (fun v w (h : RdPn X v w) => paddp_any X v y w h (by omega) ⟨by omega, by omega⟩)
      have HU := Lib.hid (fun w (h : RdPn L vp w) => paddp_any L vp y w h (by omega) ⟨by omega, by omega⟩)
      have HW := Lib.hid (fun v w (h : RdPn U v w) => paddp_any U v x w h (by omega) ⟨by omega, by omega⟩)
      have HTZ := Lib.hid (fun v w (h : RdPn Z v w) => ptotp_any Z v w h (by omega))
      have HS1 := Lib.hid (fun v w (h : RdPn L v w) (h2 : RdPn L vp w) => rsamep_any L v vp w h h2 (by omega))
      have HS2 := Lib.hid (fun v u w (h : RdPn Z v w) (h2 : RdPn Z u w) => rsamep_any Z v u w h h2 (by omega))
      rw [e1, e2] at HX
      rw [e3, e4] at HY
      rw [e5, e6] at HZ
      rw [e7, e8] at HU
      rw [e9, e10] at HW
      rw [hTZ] at HTZ
      clear e1 e2 e3 e4 e5 e6 e7 e8 e9 e10 t1 t2 l1 l2 l3 hTZ hz hT
      go_wp2_with (first
        | (go_at_call 13; refine (HV.out _ P1.out).mono ?_; rintro e w2 ⟨rfl, hb2⟩; have H2 := Lib.hid (bgo H1.out hb2); have P2 := Lib.hid (P1.out.below hb2); clear hb2 H1 P1)
        | (go_at_call 17; refine (HTT.out _ P2.out).mono ?_; rintro e w3 ⟨rfl, rfl⟩; have H3 := H2; have P3 := P2; clear H2 P2)
        | (go_at_call 8; refine (HX.out _ P3.out).mono ?_; rintro e w4 ⟨uX, rfl, ho, hb4⟩; have H4 := Lib.hid (bgo H3.out hb4); have P4 := Lib.hid (P3.out.below hb4); have X4 := Lib.hid ho.rd; clear hb4 H3 P3 ho)
        | (go_at_call 10; refine (HY.out _ _ X4.out).mono ?_; rintro e w5 ⟨uY, rfl, ho, hb5⟩; have H5 := Lib.hid (bgo H4.out hb5); have P5 := Lib.hid (P4.out.below hb5); have X5 := Lib.hid (X4.out.below hb5); have Y5 := Lib.hid ho.rd; clear hb5 H4 P4 X4 ho)
        | (go_at_call 8; refine (HZ.out _ _ X5.out).mono ?_; rintro e w6 ⟨uZ, rfl, ho, hb6⟩; have H6 := Lib.hid (bgo H5.out hb6); have P6 := Lib.hid (P5.out.below hb6); have X6 := Lib.hid (X5.out.below hb6); have Y6 := Lib.hid (Y5.out.below hb6); have Z6 := Lib.hid ho.rd; clear hb6 H5 P5 X5 Y5 ho)
        | (go_at_call 8; refine (HU.out _ P6.out).mono ?_; rintro e w7 ⟨uU, rfl, ho, hb7⟩; have H7 := Lib.hid (bgo H6.out hb7); have P7 := Lib.hid (P6.out.below hb7); have X7 := Lib.hid (X6.out.below hb7); have Y7 := Lib.hid (Y6.out.below hb7); have Z7 := Lib.hid (Z6.out.below hb7); have U7 := Lib.hid ho.rd; clear hb7 H6 P6 X6 Y6 Z6 ho)
        | (go_at_call 8; refine (HW.out _ _ U7.out).mono ?_; rintro e w8 ⟨uV, rfl, ho, hb8⟩; have H8 := Lib.hid (bgo H7.out hb8); have P8 := Lib.hid (P7.out.below hb8); have X8 := Lib.hid (X7.out.below hb8); have Y8 := Lib.hid (Y7.out.below hb8); have Z8 := Lib.hid (Z7.out.below hb8); have U8 := Lib.hid (U7.out.below hb8); have V8 := Lib.hid ho.rd; clear hb8 H7 P7 X7 Y7 Z7 U7 ho)
        | (go_at_call 14; refine (HS1.out _ _ Y8.out P8.out).mono ?_; rintro e w9 ⟨rfl, hb9⟩; have H9 := Lib.hid (bgo H8.out hb9); have P9 := Lib.hid (P8.out.below hb9); have X9 := Lib.hid (X8.out.below hb9); have Y9 := Lib.hid (Y8.out.below hb9); have Z9 := Lib.hid (Z8.out.below hb9); have U9 := Lib.hid (U8.out.below hb9); have V9 := Lib.hid (V8.out.below hb9); clear hb9 H8 P8 X8 Y8 Z8 U8 V8)
        | (go_at_call 14; refine (HS2.out _ _ _ Z9.out V9.out).mono ?_; rintro e w10 ⟨rfl, hb10⟩; have H10 := Lib.hid (bgo H9.out hb10); have P10 := Lib.hid (P9.out.below hb10); have X10 := Lib.hid (X9.out.below hb10); have Y10 := Lib.hid (Y9.out.below hb10); have Z10 := Lib.hid (Z9.out.below hb10); have U10 := Lib.hid (U9.out.below hb10); have V10 := Lib.hid (V9.out.below hb10); clear hb10 H9 P9 X9 Y9 Z9 U9 V9)
        | (go_at_call 16; refine (HTZ.out _ _ Z10.out).mono ?_; rintro e w11 ⟨rfl, hb11⟩; have H11 := Lib.hid (bgo H10.out hb11); have P11 := Lib.hid (P10.out.below hb11); have X11 := Lib.hid (X10.out.below hb11); have Y11 := Lib.hid (Y10.out.below hb11); have Z11 := Lib.hid (Z10.out.below hb11); have U11 := Lib.hid (U10.out.below hb11); have V11 := Lib.hid (V10.out.below hb11); clear hb11 H10 P10 X10 Y10 Z10 U10 V10)
        | (go_at_call 16; refine (HTP.out _ P11.out).mono ?_; rintro e w12 ⟨rfl, hb12⟩; have H12 := Lib.hid (bgo H11.out hb12); have P12 := Lib.hid (P11.out.below hb12); have X12 := Lib.hid (X11.out.below hb12); have Y12 := Lib.hid (Y11.out.below hb12); have Z12 := Lib.hid (Z11.out.below hb12); have U12 := Lib.hid (U11.out.below hb12); have V12 := Lib.hid (V11.out.below hb12); clear hb12 H11 P11 X11 Y11 Z11 U11 V11)
        | (go_at_call 15; refine (known16_any _).mono ?_; rintro e w13 ⟨rfl, hb13⟩; have H13 := Lib.hid (bgo H12.out hb13); have P13 := Lib.hid (P12.out.below hb13); have X13 := Lib.hid (X12.out.below hb13); have Y13 := Lib.hid (Y12.out.below hb13); have Z13 := Lib.hid (Z12.out.below hb13); have U13 := Lib.hid (U12.out.below hb13); have V13 := Lib.hid (V12.out.below hb13); clear hb13 H12 P12 X12 Y12 Z12 U12 V12))
      go_ret
      exact ⟨rfl, H13.out⟩
  · have HV := Lib.hid (fun w (h : RdPn L vp w) => rvalp_any L vp w h HL.out)
    generalize valN L = q at *
    go_wp2_with (first
      | (go_at_call 13; refine (HV.out _ P1.out).mono ?_; rintro e w2 ⟨rfl, hb2⟩; have H2 := Lib.hid (bgo H1.out hb2); have P2 := Lib.hid (P1.out.below hb2); clear hb2 H1 P1)
      | (go_at_call 15; refine (known16_any _).mono ?_; rintro e w3 ⟨rfl, hb3⟩; have H3 := Lib.hid (bgo H2.out hb3); have P3 := Lib.hid (P2.out.below hb3); clear hb3 H2 P2))
    go_ret
    exact ⟨rfl, H3.out⟩
end Go.Proofs.Ytledpfdflcmlcaa
