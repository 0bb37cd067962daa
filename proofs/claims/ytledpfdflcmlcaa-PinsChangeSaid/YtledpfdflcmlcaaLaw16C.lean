/- The walk of PinsChange. -/
import Derived.Test.YtledpfdflcmlcaaKn16
import Derived.Test.YtledpfdflcmlcaaPnK
import Derived.Test.YtledpfdflcmlcaaOthI
namespace Go.Proofs.Ytledpfdflcmlcaa
open Go.RowKit
set_option linter.unusedVariables false
set_option linter.unusedSimpArgs false

theorem addV_len (L : List Pn) (c : Int) : (addV L c).length ≤ L.length + 1 := by
  unfold addV
  have := addP_len c L
  split
  · exact this
  · simp
theorem remV_len (L : List Pn) (c : Int) : (remV L c).length ≤ L.length := by
  unfold remV
  have := remP_len c L
  split
  · exact this
  · simp

set_option maxRecDepth 100000 in
set_option maxHeartbeats 8000000 in
theorem pinsChange_walk (a0 : Option Addr) (len0 cap0 : Nat) (z0 : List Int) (a1 : Int) (a2 : Int) (W : World) (w0 : InRow .i64 W a0 len0 cap0 z0) (w1 : (Lit.int .i64 a1).wf = true) (w2 : (Lit.int .i64 a2).wf = true) :
    Calls Try.prog 3 #[.slice a0 len0 cap0, .int .i64 a1, .int .i64 a2] W fun e w' => e = .returned (.bool true) ∧ Below W.heap.size W w' := by
  have hmade := made16_any (z0.take len0) _ W (inRow_rdJ w0)
  have H0 := Lib.hid (Below.refl W.heap.size W)

  have hc := wf_bd w1
  have m1 := mask5k a2
  have r1 : 0 ≤ a2 % 32 ∧ a2 % 32 ≤ 31 := by omega
  clear w0 w1 w2
  obtain ⟨t, ht⟩ : ∃ t, a2 % 32 - 2 = t := ⟨_, rfl⟩
  have hb : -9223372036854775808 ≤ t ∧ t ≤ 9223372036854775807 := by omega
  have HC := Lib.hid hc
  have HT := Lib.hid hb
  have HTE := Lib.hid ht
  clear hc hb ht
  generalize a2 % 32 = s at *
  go_enter Try.func3, Try.ntmps3

  go_upto_region 2 with (first
    | (go_at_call 7; refine (hmade).mono ?_; rintro e w1 ⟨L, vp, hL, rfl, ho, hb1⟩; have H1 := Lib.hid (bgo H0.out hb1); have P1 := Lib.hid ho.rd; clear hb1 H0 ho hmade; have HL := Lib.hid (show L.length ≤ 1000000 by omega); have HA1 := Lib.hid (show (addV L t).length ≤ 1000000000000 by have := addV_len L t; omega); have HA2 := Lib.hid (show (remV L t).length ≤ 1000000000000 by have := remV_len L t; omega); have HA3 := Lib.hid (show (addV L a1).length ≤ 1000000000000 by have := addV_len L a1; omega); have HPA := Lib.hid (fun w (h : RdPn L vp w) => paddp_any L vp t w h HL.out HT.out); have HRA := Lib.hid (fun w (h : RdPn L vp w) => radd_any L vp t w h HL.out HT.out.2); have HPR := Lib.hid (fun w (h : RdPn L vp w) => premp_any L vp t w h HL.out HT.out); have HRR := Lib.hid (fun w (h : RdPn L vp w) => rremp_any L vp t w h HL.out); have HPC := Lib.hid (fun w (h : RdPn L vp w) => paddp_any L vp a1 w h HL.out HC.out); have HRC := Lib.hid (fun w (h : RdPn L vp w) => radd_any L vp a1 w h HL.out HC.out.2); rw [← HTE.out] at HPA HRA HPR HRR HA1 HA2; have HPV := Lib.hid (fun w (h : RdPn L vp w) => pvalp_any L vp w h (by have := HL.out; omega)); have HRV := Lib.hid (fun w (h : RdPn L vp w) => rvalp_any L vp w h (by have := HL.out; omega)); clear HL HTE HT HC hL))
  generalize addE L (s - 2) = E1 at *
  generalize addV L (s - 2) = V1 at *
  generalize remE L (s - 2) = E2 at *
  generalize remV L (s - 2) = V2 at *
  generalize addE L a1 = E3 at *
  generalize addV L a1 = V3 at *
  generalize valN L = E4 at *
  go_wp2_with (first
    | (go_at_call 8; refine (HPA.out _ P1.out).mono ?_; rintro e w2 ⟨uA, rfl, ho, hb2⟩; have H2 := Lib.hid (bgo H1.out hb2); have P2 := Lib.hid (P1.out.below hb2); have A2 := Lib.hid ho.rd; clear hb2 H1 P1 ho)
    | (go_at_call 9; refine (HRA.out _ P2.out).mono ?_; rintro e w3 ⟨uB, rfl, ho, hb3⟩; have H3 := Lib.hid (bgo H2.out hb3); have P3 := Lib.hid (P2.out.below hb3); have A3 := Lib.hid (A2.out.below hb3); have B3 := Lib.hid ho.rd; clear hb3 H2 P2 A2 ho)
    | (go_at_call 10; refine (HPR.out _ P3.out).mono ?_; rintro e w4 ⟨uC, rfl, ho, hb4⟩; have H4 := Lib.hid (bgo H3.out hb4); have P4 := Lib.hid (P3.out.below hb4); have A4 := Lib.hid (A3.out.below hb4); have B4 := Lib.hid (B3.out.below hb4); have C4 := Lib.hid ho.rd; clear hb4 H3 P3 A3 B3 ho)
    | (go_at_call 11; refine (HRR.out _ P4.out).mono ?_; rintro e w5 ⟨uD, rfl, ho, hb5⟩; have H5 := Lib.hid (bgo H4.out hb5); have P5 := Lib.hid (P4.out.below hb5); have A5 := Lib.hid (A4.out.below hb5); have B5 := Lib.hid (B4.out.below hb5); have C5 := Lib.hid (C4.out.below hb5); have D5 := Lib.hid ho.rd; clear hb5 H4 P4 A4 B4 C4 ho)
    | (go_at_call 8; refine (HPC.out _ P5.out).mono ?_; rintro e w6 ⟨uX, rfl, ho, hb6⟩; have H6 := Lib.hid (bgo H5.out hb6); have P6 := Lib.hid (P5.out.below hb6); have A6 := Lib.hid (A5.out.below hb6); have B6 := Lib.hid (B5.out.below hb6); have C6 := Lib.hid (C5.out.below hb6); have D6 := Lib.hid (D5.out.below hb6); have X6 := Lib.hid ho.rd; clear hb6 H5 P5 A5 B5 C5 D5 ho)
    | (go_at_call 9; refine (HRC.out _ P6.out).mono ?_; rintro e w7 ⟨uY, rfl, ho, hb7⟩; have H7 := Lib.hid (bgo H6.out hb7); have P7 := Lib.hid (P6.out.below hb7); have A7 := Lib.hid (A6.out.below hb7); have B7 := Lib.hid (B6.out.below hb7); have C7 := Lib.hid (C6.out.below hb7); have D7 := Lib.hid (D6.out.below hb7); have X7 := Lib.hid (X6.out.below hb7); have Y7 := Lib.hid ho.rd; clear hb7 H6 P6 A6 B6 C6 D6 X6 ho)
    | (go_at_call 12; refine (HPV.out _ P7.out).mono ?_; rintro e w8 ⟨rfl, hb8⟩; have H8 := Lib.hid (bgo H7.out hb8); have P8 := Lib.hid (P7.out.below hb8); have A8 := Lib.hid (A7.out.below hb8); have B8 := Lib.hid (B7.out.below hb8); have C8 := Lib.hid (C7.out.below hb8); have D8 := Lib.hid (D7.out.below hb8); have X8 := Lib.hid (X7.out.below hb8); have Y8 := Lib.hid (Y7.out.below hb8); clear hb8 H7 P7 A7 B7 C7 D7 X7 Y7)
    | (go_at_call 13; refine (HRV.out _ P8.out).mono ?_; rintro e w9 ⟨rfl, hb9⟩; have H9 := Lib.hid (bgo H8.out hb9); have P9 := Lib.hid (P8.out.below hb9); have A9 := Lib.hid (A8.out.below hb9); have B9 := Lib.hid (B8.out.below hb9); have C9 := Lib.hid (C8.out.below hb9); have D9 := Lib.hid (D8.out.below hb9); have X9 := Lib.hid (X8.out.below hb9); have Y9 := Lib.hid (Y8.out.below hb9); clear hb9 H8 P8 A8 B8 C8 D8 X8 Y8)
    | (go_at_call 14; refine (rsamep_any V1 uA uB _ A9.out B9.out HA1.out).mono ?_; rintro e w10 ⟨rfl, hb10⟩; have H10 := Lib.hid (bgo H9.out hb10); have P10 := Lib.hid (P9.out.below hb10); have A10 := Lib.hid (A9.out.below hb10); have B10 := Lib.hid (B9.out.below hb10); have C10 := Lib.hid (C9.out.below hb10); have D10 := Lib.hid (D9.out.below hb10); have X10 := Lib.hid (X9.out.below hb10); have Y10 := Lib.hid (Y9.out.below hb10); clear hb10 H9 P9 A9 B9 C9 D9 X9 Y9)
    | (go_at_call 14; refine (rsamep_any V2 uC uD _ C10.out D10.out HA2.out).mono ?_; rintro e w11 ⟨rfl, hb11⟩; have H11 := Lib.hid (bgo H10.out hb11); have P11 := Lib.hid (P10.out.below hb11); have A11 := Lib.hid (A10.out.below hb11); have B11 := Lib.hid (B10.out.below hb11); have C11 := Lib.hid (C10.out.below hb11); have D11 := Lib.hid (D10.out.below hb11); have X11 := Lib.hid (X10.out.below hb11); have Y11 := Lib.hid (Y10.out.below hb11); clear hb11 H10 P10 A10 B10 C10 D10 X10 Y10)
    | (go_at_call 14; refine (rsamep_any V3 uX uY _ X11.out Y11.out HA3.out).mono ?_; rintro e w12 ⟨rfl, hb12⟩; have H12 := Lib.hid (bgo H11.out hb12); have P12 := Lib.hid (P11.out.below hb12); have A12 := Lib.hid (A11.out.below hb12); have B12 := Lib.hid (B11.out.below hb12); have C12 := Lib.hid (C11.out.below hb12); have D12 := Lib.hid (D11.out.below hb12); have X12 := Lib.hid (X11.out.below hb12); have Y12 := Lib.hid (Y11.out.below hb12); clear hb12 H11 P11 A11 B11 C11 D11 X11 Y11)
    | (go_at_call 15; refine (known16_any _).mono ?_; rintro e w13 ⟨rfl, hb13⟩; have H13 := Lib.hid (bgo H12.out hb13); have P13 := Lib.hid (P12.out.below hb13); have A13 := Lib.hid (A12.out.below hb13); have B13 := Lib.hid (B12.out.below hb13); have C13 := Lib.hid (C12.out.below hb13); have D13 := Lib.hid (D12.out.below hb13); have X13 := Lib.hid (X12.out.below hb13); have Y13 := Lib.hid (Y12.out.below hb13); clear hb13 H12 P12 A12 B12 C12 D12 X12 Y12))
  go_ret
  exact ⟨rfl, H13.out⟩
end Go.Proofs.Ytledpfdflcmlcaa
